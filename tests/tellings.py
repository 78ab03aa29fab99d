"""Joint steps, tables and days that are alike, worked out apart from the package, by [13] and [14]."""

from tests import walking
from tests.papers import is_ascending, is_integer


def mark_at(floor, tape, stand, deed):
    return walking.mark(floor.house, tape, floor.first_run(stand) + deed)


TABLES = {}


def table_of_marks(floor, tape):
    """All (deed, stand behind it, mark) of useful stands, by the stand they lead from."""
    # The floor is kept, so that no other one has its number.
    if (id(floor), tape) not in TABLES:
        TABLES[id(floor), tape] = (floor, {
            stand: [
                (deed, floor.step(stand, deed), mark_at(floor, tape, stand, deed))
                for deed in walking.letters(floor.house) if floor.step(stand, deed) in floor.useful
            ] for stand in floor.useful
        })
    return TABLES[id(floor), tape][1]


def steps(floor, row, stand):
    """All (deed, stand behind it, marks on the tapes of the row) at a useful stand."""
    tables = [table_of_marks(floor, tape)[stand] for tape in row]
    return [
        (deed, behind, tuple(table[at][2] for table in tables))
        for at, (deed, behind, _) in enumerate(table_of_marks(floor, "deeds")[stand])
    ]


def less(one, two):
    """What two tuples have more than one another, the beginning that they share left out."""
    while one and two and one[0] == two[0]:
        one, two = one[1:], two[1:]
    return one, two


def more(left, marks, others):
    return less(left[0] + tuple(filter(None, [marks])), left[1] + tuple(filter(None, [others])))


def rests_behind(rests, marks, others):
    found = tuple(more(left, one, two) for left, one, two in zip(rests, marks, others, strict=True))
    return None if any(one and two for one, two in found) else found


def joint_steps(floor, row, pair):
    """All (deed, other deed, pair behind them); "" for no deed."""
    stand, other, rests = pair
    nothing = ("",) * len(row)
    found = []
    ones = [("", stand, nothing)] + steps(floor, row, stand)
    twos = [("", other, nothing)] + steps(floor, row, other)
    for deed, behind, marks in ones:
        for further, there, others in twos:
            single = (deed == "") != (further == "")
            if row and (marks[0] != others[0] or (marks[0] == "" and not single)):
                continue
            if not row and not single:
                continue
            left = rests_behind(rests, marks[1:], others[1:])
            if left is not None and (deed or further):
                found.append((deed, further, (behind, there, left)))
    return found


def first_pair(row):
    return (0, 0, (((), ()),) * max(0, len(row) - 1))


def is_closed(floor, pair):
    return floor.is_end(pair[0]) and floor.is_end(pair[1]) and all(rest == ((), ()) for rest in pair[2])


def reached(floor, row, begin):
    """All joint steps from some pairs and from those to which they lead."""
    met = {}
    queue = list(begin)
    for pair in queue:
        if pair not in met:
            met[pair] = joint_steps(floor, row, pair)
            queue.extend(step[2] for step in met[pair])
    return met


def open_pairs(floor, graph):
    found = {pair for pair in graph if is_closed(floor, pair)}
    while True:
        new = {pair for pair in graph if pair not in found and any(step[2] in found for step in graph[pair])}
        if not new:
            return found
        found |= new


def told_marks(floor, tape, stand, deed):
    if not deed:
        return ""
    return next(mark for letter, _, mark in table_of_marks(floor, tape)[stand] if letter == deed)


def left_behind(floor, tape, pair, step, left):
    return more(
        left, told_marks(floor, tape, pair[0], step[0]), told_marks(floor, tape, pair[1], step[1])
    )


def least_table(floor, row, tape):
    """The least table, None if the row does not tell the tape."""
    if not floor.useful:
        return ()
    graph = reached(floor, row, [first_pair(row)])
    opened = open_pairs(floor, graph)
    table = {first_pair(row): ((), ())} if first_pair(row) in opened else {}
    queue = list(table)
    for pair in queue:
        for step in graph[pair]:
            if step[2] in opened:
                left = left_behind(floor, tape, pair, step, table[pair])
                if (left[0] and left[1]) or table.setdefault(step[2], left) != left:
                    return None
                if step[2] not in queue:
                    queue.append(step[2])
    if any(is_closed(floor, pair) and table[pair] != ((), ()) for pair in table):
        return None
    return tuple(sorted(pair + left for pair, left in table.items()))


def is_mark_tuple(thing):
    return type(thing) is tuple and all(type(mark) is str and mark for mark in thing)


def is_left(thing):
    return type(thing) is tuple and len(thing) == 2 and all(map(is_mark_tuple, thing)) and () in thing


def is_right_item(floor, row, thing):
    if type(thing) is not tuple or len(thing) != 5:
        return False
    stand, other, rests, ahead, behind = thing
    if not is_integer(stand) or not is_integer(other) or stand not in floor.useful or other not in floor.useful:
        return False
    if type(rests) is not tuple or len(rests) != max(0, len(row) - 1) or not all(map(is_left, rests)):
        return False
    return is_left((ahead, behind))


def is_right_table(floor, row, tape, thing):
    if type(thing) is not tuple or not all(is_right_item(floor, row, item) for item in thing):
        return False
    table = {item[:3]: item[3:] for item in thing}
    if not is_ascending(thing) or len(table) < len(thing):
        return False
    begin = [first_pair(row)] if floor.useful else []
    graph = reached(floor, row, begin + list(table))
    opened = open_pairs(floor, graph)
    if begin and begin[0] in opened and table.get(begin[0]) != ((), ()):
        return False
    for pair, left in table.items():
        if is_closed(floor, pair) and left != ((), ()):
            return False
        for step in graph[pair]:
            if step[2] in opened and table.get(step[2]) != left_behind(floor, tape, pair, step, left):
                return False
    return True


def are_parted(floor, row, tape, day, further):
    house = floor.house
    if type(day) is not str or type(further) is not str:
        return False
    if not walking.is_day(house, day) or not walking.is_day(house, further):
        return False

    def alike(name):
        return walking.writing(house, name, day) == walking.writing(house, name, further)

    return all(map(alike, row)) and not alike(tape)


def tells_right(floor, row, tape, thing):
    """Whether any value is a paper of [14]."""
    if type(thing) is not tuple or len(thing) not in (2, 3) or type(thing[0]) is not str:
        return False
    if len(thing) == 2:
        return thing[0] == "tells" and is_right_table(floor, row, tape, thing[1])
    return thing[0] == "parts" and are_parted(floor, row, tape, *thing[1:])
