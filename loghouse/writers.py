"""What writes one tape of a floor while it reads another one that tells it, if nothing drifts."""

from loghouse.classes import how_many, numbered
from loghouse.joint import ends_on, machine_on
from loghouse.marks import apart, in_common, parted, with_mark
from loghouse.readers import Reader
from loghouse.tapes import first_marks
from loghouse.transducers import least_parts, move_table, read_on

# In the place of a stand, as long as the first mark of a sight is not read.
AHEAD = -1


def folded(machine, ends):
    """For each stand a number, equal ones for stands from which the same is written in the same ways."""
    classes = numbered({stand: stand in ends for stand in machine})
    count = 0
    while how_many(classes) != count:
        count = how_many(classes)
        classes = numbered({
            stand: (classes[stand], tuple(sorted({
                (marks, classes[target]) for _, target, marks in machine[stand]
            }))) for stand in machine
        })
    return classes


def folded_machine(machine, classes):
    """The machine of the numbers of its stands."""
    return {
        classes[stand]: [("", target, marks) for marks, target in sorted({
            (written, classes[behind]) for _, behind, written in machine[stand]
        })] for stand in machine
    }


def closed(machine, found):
    """A dict of stands with marks, and of all to which deeds lead that write nothing on the tape that is read."""
    whole = {stand: found[stand] for stand in found}
    layer = list(found)
    while layer != []:
        further = []
        for stand in layer:
            for _, target, (mark, other) in machine[stand]:
                if mark == "" and target not in whole:
                    whole[target] = with_mark(whole[stand], other)
                    further.append(target)
        layer = further
    return whole


def shared(found):
    """What all marks of a dict of stands have in common at their beginnings."""
    rows = list(found.values())
    part = rows[0]
    for row in rows:
        part = part[:in_common(part, row)]
    return part


def as_state(found):
    """What is shared, and the ascending tuple of stands with what they have behind it."""
    part = shared(found)
    return part, tuple(sorted([(stand, found[stand][len(part):]) for stand in found]))


def moves_of(machine, begun, state):
    """A dict of marks: what is written surely, and the next state. Of begun the last item is the first stand."""
    behind = {}
    for stand, left in state:
        if stand == AHEAD:
            behind[begun[0][0]] = {begun[2]: left + begun[1]}
            continue
        for _, target, (mark, other) in machine[stand]:
            if mark != "":
                behind.setdefault(mark, {})[target] = with_mark(left, other)
    return {mark: as_state(closed(machine, behind[mark])) for mark in behind}


def least_writer(floor, tape, other):
    """The least reader."""
    if floor.useful == ():
        return Reader(1, (), (), ())
    whole, whole_ends = machine_on(floor, (tape, other)), ends_on(floor)
    classes = folded(whole, whole_ends)
    machine = folded_machine(whole, classes)
    last = {classes[stand]: True for stand in whole_ends}
    begun = (first_marks(floor, tape), first_marks(floor, other), classes[0])
    first, start = as_state(closed(machine, {begun[2]: begun[1]})) if begun[0] == () else ((), ((AHEAD, ()),))
    moves, ends = {}, {}
    layer = [start]
    while layer != []:
        further = []
        for state in layer:
            if state in moves:
                continue
            moves[state] = moves_of(machine, begun, state)
            further.extend([target for written, target in list(moves[state].values())])
            for stand, left in state:
                if stand in last:
                    ends[state] = left
        layer = further
    states, first, moves, ends = least_parts(first, moves, ends, start)
    return Reader(states, first, moves, ends)


def node_behind(table, node, step, left):
    """The stand and the state behind a step, and what is left over there; None if there is no move."""
    _, target, (mark, other) = step
    behind = read_on(table, node[1], with_mark((), mark))
    if behind is None:
        return None
    return (target, behind[1]), apart(with_mark(left[0], other), left[1] + behind[0])


def begun_beside(floor, tape, other, reader, table):
    """The stand and the state behind the empty run, and what is left over there; None if there is no move."""
    begin = read_on(table, 0, first_marks(floor, tape))
    if begin is None:
        return None
    return (0, begin[1]), apart(first_marks(floor, other), reader.first + begin[0])


def is_right_end(floor, ends, node, left):
    """Whether a reader may end here, and writes what lacks, if this is an end."""
    return not floor.is_end(node[0]) or node[1] in ends and left == (ends[node[1]], ())


def left_beside(floor, tape, other, reader):
    """For each stand and state that runs come to: what the run and the reader have more; None if the reader is wrong.

    If two left-overs come to one stand and state, one of them cannot be made good.
    """
    machine, table, ends = machine_on(floor, (tape, other)), move_table(reader.moves), dict(reader.ends)
    met = {}
    queue = [begun_beside(floor, tape, other, reader, table)] if machine != {} else []
    while queue != []:
        item = queue.pop()
        if item is None or parted(item[1]):
            return None
        node, left = item
        if node in met and met[node] == left:
            continue
        if node in met or not is_right_end(floor, ends, node, left):
            return None
        met[node] = left
        queue.extend([node_behind(table, node, step, left) for step in machine[node[0]]])
    return met
