"""Findings: what is said of a house, with a paper for it, as one value that anybody can check."""

from loghouse.errors import HouseError
from loghouse.floors import Floor
from loghouse.hearsay import hearsay_holds
from loghouse.houses import House
from loghouse.intime import in_time_holds, lag
from loghouse.kinds import is_between, is_int, is_tuple_of
from loghouse.paces import pace_holds
from loghouse.policies import Policy
from loghouse.questions import asked_holds
from loghouse.slits import MOST_WIDTH, slit_holds
from loghouse.telling import tells_holds
from loghouse.values import bounds_hold


def bounds_found(house, parts):
    """Whether a paper on bounds is right."""
    return bounds_hold(house, parts[0])


def pace_found(house, parts):
    """Whether a pace paper is right."""
    tape, other, paper = parts
    return pace_holds(Floor(house), tape, other, paper)


def tells_found(house, parts):
    """Whether a paper on what a row tells is right."""
    row, tape, paper = parts
    return tells_holds(Floor(house), row, tape, paper)


def in_time_found(house, parts):
    """Whether a paper on what can be written in time is right."""
    tape, other, paper = parts
    return in_time_holds(Floor(house), tape, other, paper)


def lag_found(house, parts):
    """Whether a lag is right."""
    tape, other, number = parts
    if number is not None and not is_int(number):
        return False
    return lag(Floor(house), tape, other) == number


def asked_found(house, parts):
    """Whether a paper on a question is right."""
    row, question, paper = parts
    return asked_holds(Floor(house), row, question, paper)


def is_slit(thing):
    """Whether a value is a slit."""
    return is_tuple_of(thing, 2, 2) and all([is_between(item, 1, MOST_WIDTH) for item in thing])


def slit_found(house, parts):
    """Whether a paper on a slit is right."""
    tape, slit, question, paper = parts
    return is_slit(slit) and slit_holds(Floor(house), tape, slit, question, paper)


def hearsay_found(house, parts):
    """Whether a paper on a policy is right."""
    text, paper = parts
    return hearsay_holds(Floor(house), Policy.read(text), paper)


# How many parts a finding has behind the house.
COUNTS = {
    "bounds": 1, "pace": 3, "tells": 3, "in time": 3, "lag": 3, "asked": 3, "slit": 4, "hearsay": 2,
}
CHECKS = {
    "bounds": bounds_found,
    "pace": pace_found,
    "tells": tells_found,
    "in time": in_time_found,
    "lag": lag_found,
    "asked": asked_found,
    "slit": slit_found,
    "hearsay": hearsay_found,
}


def finding_holds(thing):
    """Whether any value is a finding that holds."""
    if not isinstance(thing, tuple) or len(thing) < 2 or not isinstance(thing[0], str) or thing[0] not in CHECKS:
        return False
    parts = thing[2:]
    if len(parts) != COUNTS[thing[0]]:
        return False
    is_found = CHECKS[thing[0]]
    try:
        return is_found(House.read(thing[1]), parts)
    except HouseError:
        return False
