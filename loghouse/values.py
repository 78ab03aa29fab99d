"""What is looked at in a house, and whether its values stay within bounds."""

from loghouse.errors import NoArrow
from loghouse.forms import value_of
from loghouse.keeping import least_kept, led_tables, steps_led
from loghouse.kinds import is_tuple_of
from loghouse.rings import RingSearch, beyond_holds, ring_met, ring_of, ring_paper
from loghouse.spots import SpotSearch, are_all_met, first_spot, within_holds
from loghouse.ways import arrow_at, arrows_along, end_from, form_ahead, forms_at, numbers_from, values_of

# Spots and rings are looked for by turns, because it is not known which search comes to an end. These numbers cost
# time alone: a step of a ring costs some times what a step from spot to spot does.
SPOT_STEPS = 128
RING_STEPS = 16


def looked_at(house, place):
    """The tuple of the looked-at forms of a place."""
    return forms_at(house, place)


def led_back(house, place, deed, form):
    """The form ahead of a deed that has the value which a form has behind it."""
    return form_ahead(arrow_at(house, place, deed)[3], form)


def check_way(house, way):
    """Raises NoArrow if a string is no way."""
    taken = len(arrows_along(house, 0, way))
    if taken < len(way):
        raise NoArrow(taken)


def end_of(house, way):
    """The place where a way ends."""
    check_way(house, way)
    return end_from(house, 0, way)


def numbers_behind(house, way):
    """The values of the registers behind a way."""
    check_way(house, way)
    return numbers_from(house, 0, house.start, way)


def judge_bounds(house):
    """A paper that a house stays within bounds, or one that it does not."""
    kept = least_kept(house)
    first, steps = first_spot(house, kept), steps_led(led_tables(house, kept))
    spots = SpotSearch(first, steps)
    if not are_all_met(spots, SPOT_STEPS):
        rings = RingSearch(steps, first)
        ring = ring_met(rings, RING_STEPS)
        while ring is None and not are_all_met(spots, SPOT_STEPS):
            ring = ring_met(rings, RING_STEPS)
        if ring is not None:
            return ring_paper(house, ring[0], ring[1])
    return ("within", kept, tuple(sorted(list(spots.met))))


def bounds_hold(house, thing):
    """Whether any value is a paper that a house stays within bounds, or one that it does not."""
    if is_tuple_of(thing, 3, 3) and thing[0] == "within":
        return within_holds(house, thing)
    if is_tuple_of(thing, 5, 5) and thing[0] == "beyond":
        return beyond_holds(house, thing)
    return False


def is_bounded(house):
    """Whether a house stays within bounds."""
    return judge_bounds(house)[0] == "within"


def value_behind(house, paper, times):
    """The value that is looked at behind so many times the loop of a paper."""
    numbers, forms, form = ring_of(house, paper)
    for _ in range(times):
        numbers = values_of(forms, numbers)
    return value_of(form, numbers)


def rounds_beyond(house, paper, bound):
    """The least number of times behind which the value is more than a bound, or less than its negative."""
    numbers, forms, form = ring_of(house, paper)
    rounds = 0
    while abs(value_of(form, numbers)) <= bound:
        numbers = values_of(forms, numbers)
        rounds += 1
    return rounds
