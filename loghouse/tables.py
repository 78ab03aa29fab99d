"""Tables: what is left over on a tape for two runs that are alike on a row of tapes so far."""

from loghouse.joint import ends_on, is_closing, joint_graph, machine_on, no_rests, rest_of_days, ways_home
from loghouse.kinds import is_ascending, is_int, is_tuple_of
from loghouse.marks import apart, is_left, parted, with_mark
from loghouse.tapes import tape_steps, writing_of


def marks_by_deeds(floor, tape):
    """A dict of pairs of a stand and a deed that can be done there: the mark on a tape. No deed writes nothing."""
    marks = {(stand, ""): "" for stand in range(len(floor))}
    for stand, steps in enumerate(tape_steps(floor, tape)):
        for deed, _, mark in steps:
            marks[stand, deed] = mark
    return marks


def left_behind(told, pair, step, left):
    """What is left over on the tape behind a joint step."""
    deed, further, _ = step
    return apart(with_mark(left[0], told[pair[0], deed]), with_mark(left[1], told[pair[1], further]))


def unlike_days(floor, tape, home, pairs):
    """The first two days with unlike writings that begin with two runs of these: (pair, run, other run)."""
    for pair, run, other in pairs:
        day, further = rest_of_days(home, pair)
        if writing_of(floor, tape, run + day) != writing_of(floor, tape, other + further):
            return ("parts", run + day, other + further)
    return None


def judged(floor, row, tape):
    """The paper with the least table, or one with two days."""
    machine, ends, told = machine_on(floor, row), ends_on(floor), marks_by_deeds(floor, tape)
    first = (0, 0, no_rests(row))
    graph = joint_graph(machine, [first]) if machine != {} else {}
    home = ways_home(graph, ends)
    layer = [first] if first in home else []
    met = {pair: (((), ()), "", "") for pair in layer}
    while layer != []:
        further = []
        for pair in layer:
            left, run, other = met[pair]
            if is_closing(ends, pair) and left != ((), ()):
                return ("parts", run, other)
            for step in graph[pair]:
                target = step[2]
                if target not in home:
                    continue
                item = (left_behind(told, pair, step, left), run + step[0], other + step[1])
                if target not in met:
                    met[target] = item
                    further.append(target)
                # What is left over cannot be made good in both ways, nor if it begins with unlike marks.
                if parted(item[0]) or item[0] != met[target][0]:
                    return unlike_days(floor, tape, home, [(target,) + item[1:], (target,) + met[target][1:]])
        layer = further
    return ("tells", tuple(sorted([pair + met[pair][0] for pair in met])))


def is_item(floor, row, thing):
    """Whether a value is by itself an item of a table."""
    if not is_tuple_of(thing, 5, 5):
        return False
    for stand in thing[:2]:
        if not is_int(stand) or stand not in floor.useful:
            return False
    rests = thing[2]
    if not is_tuple_of(rests, len(row[1:]), len(row[1:])) or not all([is_left(pair) for pair in rests]):
        return False
    return is_left(thing[3:])


def table_holds(floor, row, tape, thing):
    """Whether any value is a table for a row of tapes and a tape."""
    if not isinstance(thing, tuple) or not all([is_item(floor, row, item) for item in thing]):
        return False
    table = {item[:3]: item[3:] for item in thing}
    if not is_ascending(thing) or len(table) < len(thing):
        return False
    machine, ends, told = machine_on(floor, row), ends_on(floor), marks_by_deeds(floor, tape)
    first = (0, 0, no_rests(row))
    graph = joint_graph(machine, ([first] if machine != {} else []) + list(table))
    home = ways_home(graph, ends)
    if first in home and table.get(first) != ((), ()):
        return False
    for pair in table:
        if is_closing(ends, pair) and table[pair] != ((), ()):
            return False
        for step in graph[pair]:
            left = left_behind(told, pair, step, table[pair])
            if step[2] in home and (parted(left) or table.get(step[2]) != left):
                return False
    return True
