"""Rows of tapes: which values are refused, and with which errors."""

from loghouse.errors import NoPace, NoTape
from loghouse.gains import drift_of, least_bounds
from loghouse.tapes import check_tape


def check_row(floor, thing):
    """Raises NoTape if a value is no tuple of unlike tapes of a floor."""
    if not isinstance(thing, tuple):
        raise NoTape(thing)
    for item in thing:
        check_tape(floor, item)
    if len(set(thing)) < len(thing):
        raise NoTape(thing)


def first_without_pace(floor, row):
    """The first tape of unlike ones that keeps no pace with the first one of all, None if there is none."""
    for other in row[1:]:
        if least_bounds(floor, row[0], other) is None:
            return other
    return None


def check_pace(floor, row):
    """Raises NoPace if two of unlike tapes do not keep pace."""
    # Tapes that keep pace with the first one keep pace with one another.
    other = first_without_pace(floor, row)
    if other is not None:
        raise NoPace(drift_of(floor, row[0], other))


def check_row_and_tape(floor, row, tape):
    """Raises NoTape or NoPace for what is no row of tapes or no tape."""
    check_row(floor, row)
    check_tape(floor, tape)
    check_pace(floor, row)
