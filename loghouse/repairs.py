"""Repairs: which deeds to bar, which letters to blot, and whom to let hear more."""

from itertools import permutations

from loghouse.asking import does_row_answer
from loghouse.errors import NoTape
from loghouse.joins import is_respected
from loghouse.lots import least_lots
from loghouse.policies import Policy
from loghouse.questionparts import check_question
from loghouse.tapes import logs_of, marks_on
from loghouse.tries import check_people
from loghouse.values import is_bounded


def joined(lots):
    """The ascending tuple of the strings of lots of letters."""
    return tuple(sorted(["".join(lot) for lot in lots]))


def least_bars(house):
    """The ascending tuple of the least bars: deeds without which a house stays within bounds."""
    letters = [letter for letter, owner in house.deeds]
    return joined(least_lots(letters, lambda lot: is_bounded(house.barred("".join(lot)))))


def blotted(tape, letters):
    """The name of a tape on which letters are not written."""
    return tape if letters == () else tape + "-" + "".join(letters)


def least_blots(floor, tape, question):
    """The ascending tuple of the least blots: letters without which a tape does not tell a question."""
    if not isinstance(tape, str) or tape not in ["deeds"] + logs_of(floor.house):
        raise NoTape(tape)
    check_question(floor, question)
    return joined(least_lots(
        marks_on(floor, tape), lambda lot: not does_row_answer(floor, (blotted(tape, lot),), question),
    ))


def least_additions(floor, policy):
    """The ascending tuple of the least additions: pairs with which a floor respects a policy."""
    check_people(floor, policy)
    lacking = [pair for pair in list(permutations(range(policy.people), 2)) if pair not in policy.pairs]
    return least_lots(lacking, lambda lot: is_respected(floor, policy | Policy(policy.people, lot)))
