"""The parts of a house: which values are right ones."""

from loghouse.errors import BadHouse
from loghouse.forms import is_form
from loghouse.kinds import is_ascending, is_between, is_int, is_letter, is_tuple_of

MOST_PEOPLE = 3
MOST_DEEDS = 5
MOST_COUNT = 3
MOST_PLACES = 3
MOST_LOGS = 2


def is_people(thing):
    """Whether a value is a number of people."""
    return is_between(thing, 1, MOST_PEOPLE)


def is_places(thing):
    """Whether a value is a number of places."""
    return is_between(thing, 1, MOST_PLACES)


def is_logs(thing):
    """Whether a value is a number of logs."""
    return is_between(thing, 0, MOST_LOGS)


def is_deed(thing, people):
    """Whether a value is a pair of a letter and an owner."""
    return is_tuple_of(thing, 2, 2) and is_letter(thing[0]) and is_between(thing[1], 0, people - 1)


def are_deeds(thing, people):
    """Whether a value is a tuple of deeds as a house has it."""
    if not is_tuple_of(thing, 1, MOST_DEEDS) or not all([is_deed(item, people) for item in thing]):
        return False
    return is_ascending([letter for letter, owner in thing])


def is_start(thing):
    """Whether a value is a tuple of start values."""
    return is_tuple_of(thing, 1, MOST_COUNT) and all([is_int(item) for item in thing])


def are_ends(thing, places):
    """Whether a value is an ascending tuple of places."""
    if not isinstance(thing, tuple) or not all([is_between(item, 0, places - 1) for item in thing]):
        return False
    return is_ascending(thing)


def is_source_and_deed(house, source, deed):
    """Whether two values are a place of a house and one of its deeds."""
    return is_between(source, 0, house.places - 1) and deed in [letter for letter, owner in house.deeds]


def are_forms(house, thing):
    """Whether a value is a tuple of forms of the registers of a house."""
    count = len(house.start)
    return isinstance(thing, tuple) and all([is_form(count, item) for item in thing])


def are_marks(house, thing):
    """Whether a value has for each log of a house a letter or nothing."""
    if not is_tuple_of(thing, house.logs, house.logs):
        return False
    return all([is_letter(item) or item == "" for item in thing])


def is_arrow(house, thing):
    """Whether a value is by itself an arrow of a house."""
    if not is_tuple_of(thing, 5, 5):
        return False
    source, deed, target, forms, marks = thing
    if not is_source_and_deed(house, source, deed) or not is_between(target, 0, house.places - 1):
        return False
    return are_forms(house, forms) and len(forms) == len(house.start) and are_marks(house, marks)


def is_test(house, thing):
    """Whether a value is by itself a test of an arrow of a house, arrows not asked."""
    if not is_tuple_of(thing, 5, 5):
        return False
    source, deed, form, low, high = thing
    if not is_source_and_deed(house, source, deed) or not is_form(len(house.start), form):
        return False
    return is_int(low) and is_int(high) and low <= high


def check_arrows(house, arrows):
    """Raises BadHouse if the arrows are none for the parts that a house has so far."""
    if not isinstance(arrows, tuple):
        raise BadHouse("arrows")
    for item in arrows:
        if not is_arrow(house, item):
            raise BadHouse(item)
    # No two may have one source and deed, so these alone must ascend.
    if not is_ascending([arrow[:2] for arrow in arrows]):
        raise BadHouse("arrows")


def check_tests(house, tests):
    """Raises BadHouse if the tests are none for the parts that a house has so far."""
    if not isinstance(tests, tuple):
        raise BadHouse("tests")
    taken = {arrow[:2]: True for arrow in house.arrows}
    for item in tests:
        if not is_test(house, item) or item[:2] not in taken:
            raise BadHouse(item)
    if not is_ascending(tests):
        raise BadHouse("tests")


def are_looks(house, thing):
    """Whether a value has for each person a tuple with a tuple of forms for each place."""
    if not is_tuple_of(thing, house.people, house.people):
        return False
    if not all([is_tuple_of(row, house.places, house.places) for row in thing]):
        return False
    return all([are_forms(house, forms) for row in thing for forms in row])
