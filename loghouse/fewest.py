"""The fewest deeds of two days that are alike on a row of tapes and not on a tape.

What is left over on the tape would tell too much apart. It is enough to guess the first mark that is unlike, or is one
too many: a phase is (0, lead) as long as it is not guessed yet, lead being the number of marks of the first run less
that of the other one; (1, count, mark, run) if this run has written the mark, and the other one writes count marks
more ahead of the one that is to be unlike; (2,) behind it.
"""

from heapq import heappop, heappush

from loghouse.joint import ends_on, is_closing, joint_graph, machine_on, no_rests, ways_home
from loghouse.tables import marks_by_deeds


def phases_behind(phase, mark, run):
    """The phases to which a mark leads that one of both runs, 1 or -1, writes."""
    if mark == "" or phase[0] == 2:
        return [phase]
    if phase[0] == 0:
        lead = phase[1]
        later = [(0, lead + run)]
        return later if lead * run < 0 else later + [(1, lead * run, mark, run)]
    _, count, first, writer = phase
    if run == writer:
        return [phase]
    if count > 0:
        return [(1, count - 1, first, writer)]
    return [(2,)] if mark != first else []


def is_unlike(phase):
    """Whether two days that end in a phase have unlike writings."""
    return phase[0] == 2 or phase[0] == 0 and phase[1] != 0


def fewest(floor, row, tape):
    """The least sum of the lengths of two such days; there are two."""
    ends, told = ends_on(floor), marks_by_deeds(floor, tape)
    first = (0, 0, no_rests(row))
    graph = joint_graph(machine_on(floor, row), [first])
    home = ways_home(graph, ends)
    queue = [(home[first][0], 0, first, (0, 0))]
    met = {}
    while queue != []:
        _, cost, pair, phase = heappop(queue)
        if (pair, phase) in met:
            continue
        met[pair, phase] = True
        if is_closing(ends, pair) and is_unlike(phase):
            return cost
        for deed, further, target in graph[pair]:
            if target not in home:
                continue
            more = cost + len(deed) + len(further)
            for between in phases_behind(phase, told[pair[0], deed], 1):
                for behind in phases_behind(between, told[pair[1], further], -1):
                    if (target, behind) not in met:
                        heappush(queue, (more + home[target][0], more, target, behind))
    return None
