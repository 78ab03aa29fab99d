"""Findings: what is said of a house with a paper, as one value."""

import copy
import itertools
import unittest

from loghouse import findings as module
from loghouse.errors import BadHouse, BadPolicy, BadText
from loghouse.findings import finding_holds
from loghouse.floors import Floor
from loghouse.hearsay import hearsay, hearsay_holds
from loghouse.houses import House
from loghouse.intime import in_time, in_time_holds, lag
from loghouse.paces import keep_pace, pace, pace_holds
from loghouse.policies import Policy
from loghouse.questions import asked, asked_holds
from loghouse.readers import Reader
from loghouse.slits import slit_asked, slit_holds
from loghouse.tapes import tapes
from loghouse.telling import does_tell, tells, tells_holds
from loghouse.values import bounds_hold, is_bounded, judge_bounds
from tests.altering import altered, other_values
from tests.answering import is_right_question, is_right_tape
from tests.asks import DID, several
from tests.crowds import CARRIED, LOCKED, RACE
from tests.hearing import all_policies
from tests.listed import check_functions
from tests.samples import BARE, MILL, MILL_TEXT, any_values
from tests.test_paces import APART, FORK, TURNS
from tests.test_tapes import CROWD
from tests.yards import AT_ONCE, HELD_BACK, LONGER_DRIFT, MIRRORS, NEVER, STEP, UNBOUNDED, bounded_house

HOUSES = (MILL, BARE, CROWD, TURNS, APART, FORK, HELD_BACK, AT_ONCE, NEVER, LONGER_DRIFT, LOCKED, RACE, CARRIED) + tuple(
    house for house in (bounded_house(seed, people=2, logs=2) for seed in range(40)) if 2 <= len(Floor(house)) < 6
)[:6]
SLITS = ((1, 1), (1, 2), (2, 1))


def house_in(thing):
    try:
        return House.read(thing)
    except (BadText, BadHouse):
        return None


def policy_in(thing, people):
    try:
        policy = Policy.read(thing)
    except (BadText, BadPolicy):
        return None
    return policy if policy.people == people else None


def is_right_row(floor, thing):
    if type(thing) is not tuple or not all(is_right_tape(floor.house, tape) for tape in thing):
        return False
    return len(set(thing)) == len(thing) and all(keep_pace(floor, thing[0], other) for other in thing[1:])


def is_right_slit(thing):
    return type(thing) is tuple and len(thing) == 2 and all(type(item) is int and 1 <= item <= 3 for item in thing)


def is_told(floor, tape, other):
    return is_right_tape(floor.house, tape) and is_right_tape(floor.house, other) and does_tell(floor, (tape,), other)


def about_tapes(floor, kind, parts):
    if kind == "tells":
        row, tape, paper = parts
        return is_right_row(floor, row) and is_right_tape(floor.house, tape) and tells_holds(floor, row, tape, paper)
    tape, other, paper = parts
    if kind == "pace":
        return is_right_tape(floor.house, tape) and is_right_tape(floor.house, other)\
            and pace_holds(floor, tape, other, paper)
    if not is_told(floor, tape, other):
        return False
    if kind == "in time":
        return in_time_holds(floor, tape, other, paper)
    number = lag(floor, tape, other)
    return type(paper) is type(number) and paper == number


def is_right(thing):
    """Whether any value is a finding that holds: what the functions that look at papers say, if all parts are valid."""
    counts = {"bounds": 3, "pace": 5, "tells": 5, "in time": 5, "lag": 5, "asked": 5, "slit": 6, "hearsay": 4}
    if type(thing) is not tuple or not thing or type(thing[0]) is not str or len(thing) != counts.get(thing[0]):
        return False
    kind, text, *parts = thing
    house = house_in(text)
    if house is None:
        return False
    if kind == "bounds":
        return bounds_hold(house, parts[0])
    if not is_bounded(house):
        return False
    floor = Floor(house)
    if kind in ("pace", "tells", "in time", "lag"):
        return about_tapes(floor, kind, parts)
    if kind == "asked":
        row, question, paper = parts
        return is_right_row(floor, row) and is_right_question(house, question) and asked_holds(floor, row, question, paper)
    if kind == "slit":
        tape, slit, question, paper = parts
        right = is_right_tape(house, tape) and is_right_slit(slit) and is_right_question(house, question)
        return right and slit_holds(floor, tape, slit, question, paper)
    policy = policy_in(parts[0], house.people)
    return policy is not None and hearsay_holds(floor, policy, parts[1])


def findings(house, few=3):
    """Findings of all kinds that hold for a house which stays within bounds."""
    floor, text = Floor(house), str(house)
    names = tapes(floor) + ("deeds-a",)
    yield ("bounds", text, judge_bounds(house))
    for tape, other in list(itertools.permutations(names, 2))[::few]:
        yield ("pace", text, tape, other, pace(floor, tape, other))
        row = (tape, other) if keep_pace(floor, tape, other) else (tape,)
        yield ("tells", text, row, names[0], tells(floor, row, names[0]))
        if does_tell(floor, (tape,), other):
            yield ("in time", text, tape, other, in_time(floor, tape, other))
            yield ("lag", text, tape, other, lag(floor, tape, other))
        for question in several(floor, 3):
            yield ("asked", text, row, question, asked(floor, row, question))
    for tape, slit in itertools.product(names[:2], SLITS):
        for question in several(floor, 3):
            yield ("slit", text, tape, slit, question, slit_asked(floor, tape, slit, question))
    for pairs in list(all_policies(house.people))[::5]:
        policy = Policy(house.people, pairs)
        yield ("hearsay", text, str(policy), hearsay(floor, policy))


# Of each kind one or two with few parts.
SMALL = (
    ("bounds", MILL_TEXT, ("within", (((0, 1),),), ((0, (0,)), (0, (1,))))),
    ("bounds", str(MIRRORS), ("beyond", "", "ba", "", 0)),
    ("pace", MILL_TEXT, "deeds", "log1", ("pace", ((0, 0, 0), (1, 0, 0)))),
    ("pace", MILL_TEXT, "log0", "log1", ("drifts", "", "b")),
    ("tells", MILL_TEXT, ("log1",), "log0", ("tells", ((0, 0, (), (), ()), (1, 1, (), (), ())))),
    ("tells", MILL_TEXT, ("log0",), "log1", ("parts", "b", "")),
    ("in time", MILL_TEXT, "log1", "log0",
     ("reader", Reader(1, (), ((0, "x", ("x",), 0), (0, "y", (), 0)), ((0, ()),)))),
    ("lag", MILL_TEXT, "log1", "log0", 0),
    ("lag", str(LONGER_DRIFT), "log0", "log1", None),
    ("asked", MILL_TEXT, ("sight0",), ("did", "deeds", "b"), ("parts", "b", "")),
    ("asked", MILL_TEXT, ("log1",), ("did", "log0", "x"), ("told", (
        ((0, (False,)), (0, (False,)), ()), ((0, (True,)), (0, (True,)), ()), ((1, (True,)), (1, (True,)), ()),
    ))),
    ("slit", MILL_TEXT, "log0", (1, 1), ("did", "log0", "x"), ("seen", (
        (("slit", (), (), ((("x",), 1),)), True), (("whole", ()), False),
    ))),
    ("slit", MILL_TEXT, "log0", (2, 1), ("did", "deeds", "b"), ("parts", "b", "")),
    ("hearsay", MILL_TEXT, "people 2", ("kept", (
        (0, 0, ()), (0, 0, (1,)), (0, 1, (0,)), (1, 0, (0,)), (1, 1, ()), (1, 1, (1,)),
    ))),
    ("hearsay", str(CARRIED), "people 3\nhears 1 2", ("shown", "ab", "b", 2)),
)


class Listed(unittest.TestCase):
    def test_functions(self):
        check_functions(self, module, {"finding_holds": "thing"})


class Right(unittest.TestCase):
    def test_small_ones(self):
        for thing in SMALL:
            self.assertIs(finding_holds(thing), True, thing)
            self.assertTrue(is_right(thing), thing)
        self.assertIs(finding_holds(thing=SMALL[0]), True)

    def test_all_kinds(self):
        kinds = set()
        for house in HOUSES:
            for thing in findings(house):
                self.assertIs(finding_holds(thing), True, thing)
                kinds.add((thing[0], thing[-1][0] if type(thing[-1]) is tuple else thing[-1] is None))
        self.assertEqual(len(kinds), 2 * 8 - 1)

    def test_houses_beyond_bounds(self):
        for house in UNBOUNDED:
            self.assertIs(finding_holds(("bounds", str(house), judge_bounds(house))), True)

    def test_papers_without_limits(self):
        spots = tuple((0, (value,)) for value in range(-1500, 1502))
        self.assertIs(finding_holds(("bounds", MILL_TEXT, ("within", (((0, 1),),), spots))), True)
        self.assertIs(finding_holds(("asked", MILL_TEXT, ("sight0",), ("did", "deeds", "b"), ("parts", "b" * 3000, ""))), True)
        self.assertIs(finding_holds(("hearsay", str(CARRIED), "people 3", ("shown", "ab" * 900, "b", 2))), True)


class Wrong(unittest.TestCase):
    def check(self, thing):
        right = bool(is_right(thing))
        self.assertIs(finding_holds(thing), right, thing)
        return right

    def test_altered(self):
        """One thing otherwise at any depth, but for the text of the house."""
        for finding in SMALL:
            right = 0
            for thing in altered(finding[2:]):
                right += self.check(finding[:2] + thing if type(thing) is tuple else thing)
            self.assertLess(right, 40)

    def test_other_kinds(self):
        for finding in SMALL:
            for kind in list(other_values(finding[0])) + any_values() + [other[0] for other in SMALL]:
                self.check((kind,) + finding[1:])
            for thing in (finding[:-1], finding + (None,), list(finding), finding[:1], (), finding[1:], finding[::-1]):
                self.assertFalse(self.check(thing))

    def test_texts_of_houses(self):
        for finding in SMALL:
            lines = finding[1].split("\n")
            for at in range(len(lines)):
                for others in (lines[:at] + lines[at + 1:], lines[:at + 1] + lines[at:], lines[:at] + [""] + lines[at:]):
                    self.check(finding[:1] + ("\n".join(others),) + finding[2:])
            for text in any_values() + [finding[1] + "\n", finding[1].replace("\n", ";"), MILL, (finding[1],), [finding[1]]]:
                self.assertFalse(self.check(finding[:1] + (text,) + finding[2:]))

    def test_other_numbers_in_the_house(self):
        for finding in SMALL:
            text = finding[1]
            for at, sign in enumerate(text):
                if sign.isdigit():
                    for other in "01239"[::2]:
                        self.check(finding[:1] + (text[:at] + other + text[at + 1:],) + finding[2:])

    def test_houses_of_others(self):
        for finding in SMALL:
            for house in (MILL, BARE, CROWD, MIRRORS, STEP, FORK, CARRIED, LONGER_DRIFT):
                self.check(finding[:1] + (str(house),) + finding[2:])

    def test_house_beyond_bounds(self):
        """Nothing holds for a house that goes beyond bounds but just that."""
        for finding in SMALL:
            if finding[0] != "bounds":
                for house in UNBOUNDED:
                    self.assertFalse(self.check(finding[:1] + (str(house),) + finding[2:]))

    def test_papers_of_others(self):
        for finding in SMALL:
            for other in SMALL:
                self.check(finding[:-1] + other[-1:])
                if len(finding) == len(other):
                    self.check(other[:1] + finding[1:])
                    self.check(finding[:2] + other[2:])

    def test_any_values(self):
        for thing in any_values() + [MILL, Floor(MILL), "bounds", ("bounds",), Policy(2, ())]:
            self.assertFalse(self.check(thing))
            for finding in SMALL:
                for at in range(1, len(finding)):
                    self.check(finding[:at] + (thing,) + finding[at + 1:])

    def test_tapes_and_rows(self):
        for tape, other in itertools.product(("deeds", "log0", "log1", "log2", "sight0-a", "log0-ba", "", None), repeat=2):
            for finding in SMALL[2:9]:
                if finding[0] == "tells":
                    for row in ((tape, other), (tape, tape), [tape], tape, (other,), (tape, "log0", "log1")):
                        self.check(finding[:2] + (row, other) + finding[4:])
                else:
                    self.check(finding[:2] + (tape, other) + finding[4:])
        for row in (("log0", "log1"), ("log0", "log0"), ("sight0", "log1"), ["sight0"], ("sight0", None), "sight0"):
            self.assertFalse(self.check(SMALL[9][:2] + (row,) + SMALL[9][3:]))

    def test_slits(self):
        for slit in ((0, 1), (1, 0), (4, 1), (1, 4), (True, 1), (1, True), (1,), (1, 1, 1), [1, 1], "11", None, 1, (1, None)):
            self.assertFalse(self.check(SMALL[11][:3] + (slit,) + SMALL[11][4:]))
            self.assertFalse(self.check(SMALL[12][:3] + (slit,) + SMALL[12][4:]))

    def test_policies(self):
        for text in (
            "people 1", "people 3", "people 2\n", "people 2\nhears 0 0", "people 2\nhears 0 1\nhears 0 1", "", None, 2,
            Policy(2, ()), "people 2\nhears 1 0\nhears 0 1", "people 2\nhears 0 2",
        ):
            self.assertFalse(self.check(SMALL[13][:2] + (text,) + SMALL[13][3:]))
        # Fewer triples are needed with more pairs; these may be there nevertheless.
        self.assertTrue(self.check(SMALL[13][:2] + ("people 2\nhears 0 1",) + SMALL[13][3:]))
        self.assertFalse(self.check(SMALL[14][:2] + ("people 3\nhears 0 1\nhears 1 2",) + SMALL[14][3:]))

    def test_numbers(self):
        for number in (False, True, 1, -1, "0", (0,), None, [0]):
            self.assertFalse(self.check(SMALL[7][:4] + (number,)))
        for number in (False, 0, 1, "None", (None,)):
            self.assertFalse(self.check(SMALL[8][:4] + (number,)))

    def test_tape_that_does_not_tell(self):
        for paper in (0, 1, None, ("reader", SMALL[6][4][1]), ("parts", "b", ""), ("drifts", "", "", "", "")):
            for kind in ("lag", "in time"):
                self.assertFalse(self.check((kind, MILL_TEXT, "log0", "log1", paper)))

    def test_questions(self):
        for question in (("did", "log9", "x"), ("sees", 2, ()), ["did", "log0", "x"], DID + ("a",), None, "did log0 x"):
            self.assertFalse(self.check(SMALL[10][:3] + (question,) + SMALL[10][4:]))
            self.assertFalse(self.check(SMALL[11][:4] + (question,) + SMALL[11][5:]))

    def test_thing_stays(self):
        thing = ("bounds", MILL_TEXT, ["within", [[0]], {"a": [1]}])
        kept = copy.deepcopy(thing)
        finding_holds(thing)
        self.assertEqual(thing, kept)


if __name__ == "__main__":
    unittest.main()
