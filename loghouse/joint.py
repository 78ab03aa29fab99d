"""Two runs side by side that are alike so far on a row of tapes: pairs with rests, and joint steps.

A machine is a dict that has for each node (a useful stand, or what is used in its place) a list of its steps: the
deed, the node behind it, and a tuple of what it writes on each tape of the row. Ends are a dict of nodes.
"""

from heapq import heappop, heappush

from loghouse.marks import apart, parted, with_mark
from loghouse.tapes import tape_steps


def machine_on(floor, row):
    """The machine of the useful stands of a floor for a row of tapes."""
    useful = {stand: True for stand in floor.useful}
    plain = tape_steps(floor, "deeds")
    tables = [tape_steps(floor, tape) for tape in row]
    return {
        stand: [
            (deed, target, tuple([table[stand][at][2] for table in tables]))
            for at, (deed, target, _) in enumerate(plain[stand]) if target in useful
        ] for stand in useful
    }


def ends_on(floor):
    """The ends of the machine of a floor."""
    return {stand: True for stand in floor.useful if floor.is_end(stand)}


def no_rests(row):
    """The rests for a row that are all empty."""
    return (((), ()),) * len(row[1:])


def is_silent(marks):
    """Whether nothing is written on the first tape of a row, perhaps because there is none."""
    return marks[:1] == () or marks[0] == ""


def moved(rests, marks, others):
    """The rests behind marks, None if two begin with unlike marks then."""
    left = [
        apart(with_mark(ones[0], mark), with_mark(ones[1], other))
        for ones, mark, other in zip(rests, marks[1:], others[1:])
    ]
    return None if True in [parted(pair) for pair in left] else tuple(left)


def joint_steps(machine, pair):
    """The joint steps from a pair with rests: a deed or "" for each of both, and the pair behind them."""
    node, other, rests = pair
    found = []
    for deed, target, marks in machine[node]:
        if is_silent(marks):
            found.append((deed, "", (target, other, moved(rests, marks, ("",) * len(marks)))))
            continue
        for further, there, others in machine[other]:
            if others[0] == marks[0]:
                found.append((deed, further, (target, there, moved(rests, marks, others))))
    for further, there, others in machine[other]:
        if is_silent(others):
            found.append(("", further, (node, there, moved(rests, ("",) * len(others), others))))
    return [step for step in found if step[2][2] is not None]


def joint_graph(machine, begin):
    """A dict of the joint steps from each of some pairs, and from all pairs to which joint steps lead from these."""
    graph = {}
    layer = begin
    while layer != []:
        further = []
        for pair in layer:
            if pair not in graph:
                graph[pair] = joint_steps(machine, pair)
                further.extend([step[2] for step in graph[pair]])
        layer = further
    return graph


def is_closing(ends, pair):
    """Whether a pair has two ends, and all rests empty."""
    return pair[0] in ends and pair[1] in ends and all([rest == ((), ()) for rest in pair[2]])


def steps_back(graph):
    """For each pair the joint steps that lead to it: the pair ahead, and a deed or "" for each of both."""
    back = {pair: [] for pair in graph}
    for pair in graph:
        for deed, further, target in graph[pair]:
            back[target].append((pair, deed, further))
    return back


def ways_home(graph, ends):
    """A dict of the open pairs of a graph: the fewest deeds to two ends, and the first joint step of these or None."""
    back = steps_back(graph)
    queue = []
    home = {}
    for pair in graph:
        if is_closing(ends, pair):
            home[pair] = (0, None)
            heappush(queue, (0, pair))
    while queue != []:
        cost, pair = heappop(queue)
        if cost > home[pair][0]:
            continue
        for ahead, deed, further in back[pair]:
            more = cost + len(deed) + len(further)
            if ahead not in home or more < home[ahead][0]:
                home[ahead] = (more, (deed, further, pair))
                heappush(queue, (more, ahead))
    return home


def rest_of_days(home, pair):
    """Two strings of deeds that lead from an open pair to two ends."""
    day, other = "", ""
    step = home[pair][1]
    while step is not None:
        deed, further, pair = step
        day += deed
        other += further
        step = home[pair][1]
    return day, other
