"""Whether two tapes of a floor keep pace, or one of them runs ahead for ever."""

from loghouse.errors import NoPace, NoTape
from loghouse.floors import stand_after
from loghouse.gains import drift_of, first_lead, gains, least_bounds, pace_paper
from loghouse.houses import House
from loghouse.kinds import is_int, is_tuple_of
from loghouse.tapes import check_tape, logs_of


def check_both(floor, tape, other):
    """Raises NoTape for the first of two values that is no tape."""
    check_tape(floor, tape)
    check_tape(floor, other)


def pace(floor, tape, other):
    """A paper that two tapes keep pace, or one that they do not."""
    check_both(floor, tape, other)
    return pace_paper(floor, tape, other)


def is_bound(thing):
    """Whether a value is a stand, or any integer, with two others, the second not less than the first."""
    return is_tuple_of(thing, 3, 3) and all([is_int(item) for item in thing]) and thing[1] <= thing[2]


def are_bounds(floor, tape, other, thing):
    """Whether a value has bounds for each useful stand that hold the leads behind all runs."""
    if not isinstance(thing, tuple) or not all([is_bound(item) for item in thing]):
        return False
    if tuple([item[0] for item in thing]) != floor.useful:
        return False
    bounds = {stand: (low, high) for stand, low, high in thing}
    edges = gains(floor, tape, other)
    lead = first_lead(floor, tape, other)
    if 0 in bounds and not bounds[0][0] <= lead <= bounds[0][1]:
        return False
    for stand in bounds:
        low, high = bounds[stand]
        for target, gain in edges[stand].values():
            if bounds[target][0] > low + gain or bounds[target][1] < high + gain:
                return False
    return True


def is_drift(floor, tape, other, run, loop):
    """Whether two values are a run to a useful stand, and a loop there with a gain."""
    stand = stand_after(floor, run)
    if stand not in floor.useful or not isinstance(loop, str) or stand_after(floor, run + loop) != stand:
        return False
    total = 0
    edges = gains(floor, tape, other)
    for deed in loop:
        stand, gain = edges[stand][deed]
        total += gain
    return total != 0


def pace_holds(floor, tape, other, thing):
    """Whether any value is a paper that two tapes keep pace, or one that they do not."""
    check_both(floor, tape, other)
    if is_tuple_of(thing, 2, 2) and thing[0] == "pace":
        return are_bounds(floor, tape, other, thing[1])
    if is_tuple_of(thing, 3, 3) and thing[0] == "drifts":
        return is_drift(floor, tape, other, thing[1], thing[2])
    return False


def keep_pace(floor, tape, other):
    """Whether two tapes keep pace."""
    check_both(floor, tape, other)
    return least_bounds(floor, tape, other) is not None


def leads(floor, tape, other):
    """The least bounds of all leads, for each useful stand."""
    check_both(floor, tape, other)
    bounds = least_bounds(floor, tape, other)
    if bounds is None:
        raise NoPace(drift_of(floor, tape, other))
    return bounds


def gain_of_arrow(arrow, tape, other):
    """What an arrow writes on one of the tapes of deeds and logs, less what it writes on another one."""
    marks = {f"log{at}": mark for at, mark in enumerate(arrow[4])}
    marks["deeds"] = arrow[1]
    return int(marks[tape] != "") - int(marks[other] != "")


def with_lead(house, tape, other):
    """The house with one register more, which has the lead of one tape to another one."""
    for thing in (tape, other):
        if thing not in ["deeds"] + logs_of(house):
            raise NoTape(thing)
    if tape == other:
        raise NoTape(other)
    zeros = (0,) * len(house.start)
    arrows = tuple([
        (source, deed, target, tuple([form + (0,) for form in forms]) + (
            (gain_of_arrow((source, deed, target, forms, marks), tape, other),) + zeros + (1,),
        ), marks) for source, deed, target, forms, marks in house.arrows
    ])
    tests = tuple([(source, deed, form + (0,), low, high) for source, deed, form, low, high in house.tests])
    looks = [[tuple([form + (0,) for form in forms]) for forms in row] for row in house.looks]
    looks[0] = [forms + ((0,) + zeros + (1,),) for forms in looks[0]]
    return House(
        house.people, house.deeds, house.start + (0,), house.places, house.ends, house.logs,
        arrows, tests, tuple([tuple(row) for row in looks]),
    )
