"""Questions that several tests ask."""

import itertools

from loghouse.tapes import marks_on, tapes
from tests.answering import is_right_question

DID = ("did", "deeds", "a")


def simple(floor, most=3):
    """Questions of one tuple: did with marks of each tape and one that it never has, and sees."""
    found = []
    for tape in tapes(floor) + ("deeds-a",):
        marks = marks_on(floor, tape)
        found += [("did", tape, mark) for mark in marks[:most] + marks[most:][-1:] + ("!",)]
    for person in range(floor.house.people):
        seen = sorted({floor.seen(stand, person) for stand in range(len(floor))})
        found += [("sees", person, numbers) for numbers in seen[:most] + [(), (9, 9, 9)]]
    return found


def deeper(floor, step=7):
    """Questions of several tuples, some of all that can be made of these."""
    ones = simple(floor, 2)
    found = [("not", one) for one in ones[::2]]
    pairs = list(itertools.product(ones, repeat=2))
    found += [("both", one, two) for one, two in pairs[::step]]
    found += [("either", one, two) for one, two in pairs[3::step]]
    mixed = [(("not", one), two) for one, two in pairs[5::step * 2]]
    found += [("both", ("either", *pair), ("not", pair[0])) for pair in mixed]
    found += [("either", two, ("both", one, DID)) for one, two in pairs[1::step * 2]]
    found += [("not", ("both", one, ("not", two))) for one, two in pairs[2::step * 2]]
    assert all(is_right_question(floor.house, question) for question in found)
    return found


def several(floor, count):
    """About so many questions of all kinds."""
    found = simple(floor) + deeper(floor)
    return found[::max(1, len(found) // count)]
