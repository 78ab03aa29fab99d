"""What people are told by what they hear of tries, and whether what they see tells more."""

from loghouse.joins import blocks_of, is_respected, rows_apart, shown_rows
from loghouse.kinds import is_between, is_tuple_of
from loghouse.tapes import first_marks
from loghouse.triples import all_triples, kept_holds
from loghouse.tries import are_told_alike, are_tries, check_people, check_tries, stand_tried
from loghouse.words import numbers_word


def stand_behind(floor, tries):
    """The stand behind a row of tries."""
    check_tries(floor, tries)
    return stand_tried(floor, 0, tries)


def tries_tape(floor, tries, person):
    """The tape of tries of a person: their sight, with what they try in vain."""
    check_tries(floor, tries)
    marks = list(first_marks(floor, f"sight{person}"))
    stand = 0
    for deed in tries:
        behind = stand_tried(floor, stand, deed)
        word = numbers_word(floor.seen(behind, person))
        if (deed, person) in floor.house.deeds:
            marks.append(f"{deed}:{word}")
        elif floor.seen(behind, person) != floor.seen(stand, person):
            marks.append(word)
        stand = behind
    return tuple(marks)


def tell_alike(floor, policy, tries, other, person):
    """Whether two rows of tries tell a person the same."""
    check_people(floor, policy)
    check_tries(floor, tries)
    check_tries(floor, other)
    return are_told_alike(floor, policy, tries, other, person)


def triples(floor, policy):
    """The ascending tuple of all triples that are first or led to, without those with all people."""
    check_people(floor, policy)
    return all_triples(floor, policy)


def respects(floor, policy):
    """Whether a floor respects a policy."""
    check_people(floor, policy)
    return is_respected(floor, policy)


def hearsay(floor, policy):
    """A paper that a floor respects a policy, or one that it does not."""
    check_people(floor, policy)
    if is_respected(floor, policy):
        return ("kept", all_triples(floor, policy))
    return ("shown",) + shown_rows(floor, policy)


def shown_holds(floor, policy, tries, other, person):
    """Whether two values are rows of tries that tell a person, a third value, the same and let them see otherwise."""
    if not are_tries(floor, tries) or not are_tries(floor, other):
        return False
    if not is_between(person, 0, floor.house.people - 1) or not are_told_alike(floor, policy, tries, other, person):
        return False
    return floor.seen(stand_tried(floor, 0, tries), person) != floor.seen(stand_tried(floor, 0, other), person)


def hearsay_holds(floor, policy, thing):
    """Whether any value is a paper that a floor respects a policy, or one that it does not."""
    check_people(floor, policy)
    if is_tuple_of(thing, 2, 2) and thing[0] == "kept":
        return kept_holds(floor, policy, thing[1])
    if is_tuple_of(thing, 4, 4) and thing[0] == "shown":
        _, tries, other, person = thing
        return shown_holds(floor, policy, tries, other, person)
    return False


def blocks(floor, policy, person):
    """The ascending tuple of the blocks of a person."""
    check_people(floor, policy)
    return blocks_of(floor, policy, person)


def may_know(floor, policy, person, stands):
    """Whether a person may know whether the stand is one of some stands."""
    check_people(floor, policy)
    within = {stand: True for stand in stands}
    return all([
        len(set([stand in within for stand in block])) == 1 for block in blocks_of(floor, policy, person)
    ])


def rows_against(floor, policy, person, stands):
    """Two rows of tries that tell a person the same, of which the first one alone leads to one of some stands.

    The longer one is as short as can be. None if the person may know whether the stand is one of these.
    """
    if may_know(floor, policy, person, stands):
        return None
    return rows_apart(floor, policy, person, stands)


def safe_tries(floor, policy):
    """The greatest number such that no rows of at most as many tries show that a policy is not respected, or None."""
    check_people(floor, policy)
    if is_respected(floor, policy):
        return None
    row, other, _ = shown_rows(floor, policy)
    return max(len(row), len(other)) - 1
