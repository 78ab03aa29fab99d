"""Which papers are right, worked out apart from the package. Each function takes any value for the paper."""

from fractions import Fraction

from tests import walking
from tests.walking import value, way_state, writing


def is_integer(thing):
    return type(thing) is int


def is_ascending(items):
    return all(items[at] < items[at + 1] for at in range(len(items) - 1))


def factors_for(rows, wanted):
    """The factors with which rows make the wanted one, as fractions; None if there are none or several."""
    lines = [[Fraction(row[at]) for row in rows] + [Fraction(wanted[at])] for at in range(len(wanted))]
    done = 0
    for column in range(len(rows)):
        found = [line for line in lines[done:] if line[column] != 0]
        if not found:
            return None
        lines.remove(found[0])
        pivot = [number / found[0][column] for number in found[0]]
        lines = [
            [number - line[column] * other for number, other in zip(line, pivot)] for line in lines
        ]
        lines.insert(done, pivot)
        done += 1
    if any(line[-1] != 0 for line in lines[done:]):
        return None
    return [line[-1] for line in lines[:done]]


def combination(kept, form):
    """The integers by which the form is a sum of those kept and the form one (the last integer); or None."""
    one = (1,) + (0,) * (len(form) - 1)
    found = factors_for(list(kept) + [one], form)
    if found is None or any(number.denominator != 1 for number in found):
        return None
    return [int(number) for number in found]


def looked(house, place):
    return [form for row in house.looks for form in row[place]] + [
        test[2] for test in house.tests if test[0] == place
    ]


def ahead_of(arrow, form):
    """The form led back, found by its values for some registers."""
    count = len(arrow[3])

    def behind(numbers):
        return value(form, tuple(value(inner, numbers) for inner in arrow[3]))

    constant = behind((0,) * count)
    units = [tuple(int(at == k) for k in range(count)) for at in range(count)]
    return (constant,) + tuple(behind(unit) - constant for unit in units)


def are_right_kept(house, kept):
    count = len(house.start)
    if type(kept) is not tuple or len(kept) != house.places:
        return False
    for here in kept:
        if type(here) is not tuple or len(here) > count:
            return False
        for form in here:
            if type(form) is not tuple or len(form) != count + 1 or not all(map(is_integer, form)):
                return False
        if factors_for(list(here) + [(1,) + (0,) * count], (0,) * (count + 1)) is None:
            return False
    if any(combination(kept[place], form) is None for place in range(house.places) for form in looked(house, place)):
        return False
    return all(
        combination(kept[arrow[0]], ahead_of(arrow, form)) is not None
        for arrow in house.arrows for form in kept[arrow[2]]
    )


def is_right_within(house, kept, spots):
    if not are_right_kept(house, kept) or type(spots) is not tuple:
        return False
    for spot in spots:
        if type(spot) is not tuple or len(spot) != 2 or not is_integer(spot[0]) or not 0 <= spot[0] < house.places:
            return False
        if type(spot[1]) is not tuple or len(spot[1]) != len(kept[spot[0]]) or not all(map(is_integer, spot[1])):
            return False
    if not is_ascending(spots) or (0, tuple(value(form, house.start) for form in kept[0])) not in spots:
        return False
    for arrow in house.arrows:
        sums = [combination(kept[arrow[0]], ahead_of(arrow, form)) for form in kept[arrow[2]]]
        for place, values in spots:
            if place == arrow[0]:
                behind = tuple(
                    sum(number * factor for number, factor in zip(values + (1,), row)) for row in sums
                )
                if (arrow[2], behind) not in spots:
                    return False
    return True


def shown(house, paper, times):
    """s(times), deed by deed."""
    _, way, loop, last, index = paper
    place, numbers = way_state(house, way + loop * times + last)
    return value(looked(house, place)[index], numbers)


def is_endless(house, paper):
    """Whether more values are met than a sequence can have that comes round."""
    _, way, loop, last, index = paper
    state = way_state(house, way)
    met = set()
    for _ in range(400):
        behind = state
        for deed in last:
            behind = walking.done(house, behind, deed)
        met.add(value(looked(house, behind[0])[index], behind[1]))
        if len(met) > 20:
            return True
        for deed in loop:
            state = walking.done(house, state, deed)
    return False


def is_right_beyond(house, paper):
    _, way, loop, last, index = paper
    if not all(type(item) is str and len(item) <= 60 for item in (way, loop, last)) or loop == "":
        return False
    if not all(way_state(house, item) for item in (way, way + loop, way + last)):
        return False
    if way_state(house, way + loop)[0] != way_state(house, way)[0]:
        return False
    place = way_state(house, way + last)[0]
    return is_integer(index) and 0 <= index < len(looked(house, place)) and is_endless(house, paper)


def bounds_right(house, thing):
    """Whether any value is a paper of [8] or [9]."""
    if type(thing) is not tuple or len(thing) not in (3, 5):
        return False
    if type(thing[0]) is not str or thing[0] != {3: "within", 5: "beyond"}[len(thing)]:
        return False
    return is_right_within(house, *thing[1:]) if len(thing) == 3 else is_right_beyond(house, thing)


def lead(house, tape, other, run):
    return len(writing(house, tape, run)) - len(writing(house, other, run))


def gain(house, tape, other, run, deed):
    return lead(house, tape, other, run + deed) - lead(house, tape, other, run)


def useful_steps(floor):
    """All (stand, deed, stand behind it) with two useful stands."""
    return [
        (stand, deed, floor.step(stand, deed)) for stand in floor.useful for deed in walking.letters(floor.house)
        if floor.step(stand, deed) in floor.useful
    ]


def are_right_bounds(floor, tape, other, bounds):
    if type(bounds) is not tuple:
        return False
    for item in bounds:
        if type(item) is not tuple or len(item) != 3 or not all(map(is_integer, item)) or item[1] > item[2]:
            return False
    if [item[0] for item in bounds] != list(floor.useful):
        return False
    house = floor.house
    low, high = {item[0]: item[1] for item in bounds}, {item[0]: item[2] for item in bounds}
    if bounds and not low[0] <= lead(house, tape, other, "") <= high[0]:
        return False
    for stand, deed, behind in useful_steps(floor):
        more = gain(house, tape, other, floor.first_run(stand), deed)
        if low[behind] > low[stand] + more or high[behind] < high[stand] + more:
            return False
    return True


def is_right_pace_drift(floor, tape, other, run, loop):
    house = floor.house
    if type(run) is not str or type(loop) is not str or loop == "":
        return False
    if walking.run_state(house, run) is None or walking.run_state(house, run + loop) is None:
        return False
    stand = floor.stand_of(run)
    if stand not in floor.useful or floor.stand_of(run + loop) != stand:
        return False
    return lead(house, tape, other, run + loop) != lead(house, tape, other, run)


def pace_right(floor, tape, other, thing):
    """Whether any value is a paper of [12]."""
    if type(thing) is not tuple or len(thing) not in (2, 3) or type(thing[0]) is not str:
        return False
    if len(thing) == 2:
        return thing[0] == "pace" and are_right_bounds(floor, tape, other, thing[1])
    return thing[0] == "drifts" and is_right_pace_drift(floor, tape, other, *thing[1:])
