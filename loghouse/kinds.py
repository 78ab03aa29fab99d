"""Kinds of values that many parts are made of. Each function takes any value."""

# The least integer of 41 digits.
GREAT = 10 ** 40


def is_int(thing):
    """Whether a value is an integer; a bool is none."""
    return isinstance(thing, int) and not isinstance(thing, bool)


def is_between(thing, low, high):
    """Whether a value is an integer from low to high."""
    return is_int(thing) and low <= thing <= high


def is_short(thing):
    """Whether a value is an integer of at most 40 digits, the sign not counted."""
    return is_int(thing) and abs(thing) < GREAT


def is_letter(thing):
    """Whether a value is a letter from a to z."""
    return isinstance(thing, str) and len(thing) == 1 and "a" <= thing <= "z"


def is_tuple_of(thing, low, high):
    """Whether a value is a tuple with low to high items."""
    return isinstance(thing, tuple) and low <= len(thing) <= high


def is_ascending(items):
    """Whether items that can be compared are sorted, without duplicates."""
    return all([ahead < behind for ahead, behind in zip(items, items[1:])])
