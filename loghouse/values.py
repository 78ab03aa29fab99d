"""What is looked at in a house, and whether its values stay within bounds."""

from loghouse.errors import NoArrow
from loghouse.forms import value_of
from loghouse.keeping import least_kept
from loghouse.kinds import is_tuple_of
from loghouse.rings import beyond_holds, ring_of, ring_paper
from loghouse.spots import spots_met, within_holds
from loghouse.ways import arrow_at, arrows_along, end_from, form_ahead, forms_at, numbers_from, values_of

# More spots than a house is said to have; a greater number costs time alone.
MANY_SPOTS = 4000


def looked_at(house, place):
    """The tuple of the looked-at forms of a place."""
    return forms_at(house, place)


def led_back(house, place, deed, form):
    """The form ahead of a deed that has the value which a form has behind it."""
    return form_ahead(arrow_at(house, place, deed)[3], form)


def check_way(house, way):
    """Raises NoArrow if a string is no way."""
    taken = len(arrows_along(house, 0, way))
    if taken < len(way):
        raise NoArrow(taken)


def end_of(house, way):
    """The place where a way ends."""
    check_way(house, way)
    return end_from(house, 0, way)


def numbers_behind(house, way):
    """The values of the registers behind a way."""
    check_way(house, way)
    return numbers_from(house, 0, house.start, way)


def judge_bounds(house):
    """A paper that a house stays within bounds, or one that it does not."""
    kept = least_kept(house)
    spots = spots_met(house, kept, MANY_SPOTS)
    if spots is None:
        paper = ring_paper(house)
        if paper is not None:
            return paper
        spots = spots_met(house, kept, None)
    return ("within", kept, spots)


def bounds_hold(house, thing):
    """Whether any value is a paper that a house stays within bounds, or one that it does not."""
    if is_tuple_of(thing, 3, 3) and thing[0] == "within":
        return within_holds(house, thing)
    if is_tuple_of(thing, 5, 5) and thing[0] == "beyond":
        return beyond_holds(house, thing)
    return False


def is_bounded(house):
    """Whether a house stays within bounds."""
    return judge_bounds(house)[0] == "within"


def value_behind(house, paper, times):
    """The value that is looked at behind so many times the loop of a paper."""
    numbers, forms, form = ring_of(house, paper)
    for _ in range(times):
        numbers = values_of(forms, numbers)
    return value_of(form, numbers)


def rounds_beyond(house, paper, bound):
    """The least number of times behind which the value is more than a bound, or less than its negative."""
    numbers, forms, form = ring_of(house, paper)
    rounds = 0
    while abs(value_of(form, numbers)) <= bound:
        numbers = values_of(forms, numbers)
        rounds += 1
    return rounds
