"""Tapes: which there are, and what they have behind runs."""

import copy
import unittest

from loghouse import tapes as module
from loghouse.errors import NoTape
from loghouse.floors import Floor
from loghouse.tapes import is_tape, mark_of, marks_on, tapes, written
from tests import walking
from tests.listed import check_functions
from tests.samples import BARE, MILL, any_values, attributes, made
from tests.walking import letters, run_state, runs, tape_names, writing
from tests.yards import CUBE, MIDDLE, SIXTH, bounded_house, one_person

HOUSES = (MILL, BARE, SIXTH, MIDDLE) + tuple(bounded_house(seed) for seed in range(40))
FLOORS = tuple(Floor(house) for house in HOUSES)
FLOOR = FLOORS[0]
BLOTS = ("a", "x", "xy", "abcxyz", "abcdefghijklmnopqrstuvwxyz", "q")

# Three people; the first sees two numbers, the second nothing at one place, the third the same always.
CROWD = made(
    attributes(MILL), people=3, deeds=(("a", 0), ("b", 1), ("c", 2)), places=2, logs=1, start=(-3,),
    arrows=(
        (0, "a", 0, ((0, -1),), ("m",)), (0, "b", 1, ((0, 1),), ("",)), (0, "c", 0, ((0, 1),), ("c",)),
        (1, "b", 0, ((0, 1),), ("m",)), (1, "c", 1, ((0, -1),), ("",)),
    ),
    looks=((((0, 1), (20, 0)), ((0, 1), (20, 0))), (((0, 1),), ()), (((7, 0),), ((7, 0),))),
)
# The register is 0 behind the first deed, and no end is reached then.
AWAY_FROM_ENDS = one_person(
    (5,), (0,), ((0, "a", 1, ((0, 0),), ("x",)), (1, "b", 1, ((0, 1),), ("y",))),
    (((0, 1),), ((1, 1),)), logs=1,
)


def right_names(house):
    return tape_names(house) + [
        f"{name}-{blots}" for name in tape_names(house) if not name.startswith("sight") for blots in BLOTS
    ]


WRONG_NAMES = (
    "", "deed", "Deeds", "deeds ", " deeds", "deeds\n", "deeds0", "log", "log-x", "logs", "log2", "log3", "log-1",
    "log00", "log01", "log+1", "log1 ", "log 1", "log1\n", "sight", "sight2", "sight00", "sight01", "sight-1",
    "sight0-a", "sight0-x", "sight1-ab", "sight0-", "deeds-", "log0-", "deeds--a", "log0--", "deeds-a-b", "log0-x-",
    "log0-yx", "log0-xx", "log0-xyx", "deeds-ba", "deeds-aa", "deeds-A", "deeds-a ", "deeds- a", "deeds-a\n",
    "deeds-1", "deeds-`", "deeds-{", "log0-x,y", "log0x", "log0_x", "-", "-a", "a", "x", "log2-x", "log9-x",
    "log10", "sight10", "log0log1", "deeds,log0", "deeds-a{", "LOG0", "loh0", "log0-xY", "log0-a.",
)


class Listed(unittest.TestCase):
    def test_functions(self):
        check_functions(self, module, {
            "tapes": "floor", "is_tape": "floor thing", "written": "floor tape run",
            "mark_of": "floor tape stand deed", "marks_on": "floor tape",
        })


class Tapes(unittest.TestCase):
    def test_names(self):
        self.assertEqual(tapes(FLOOR), ("deeds", "log0", "log1", "sight0", "sight1"))
        self.assertEqual(tapes(Floor(BARE)), ("deeds", "sight0"))
        self.assertEqual(tapes(Floor(CROWD)), ("deeds", "log0", "sight0", "sight1", "sight2"))
        for house, floor in zip(HOUSES, FLOORS):
            self.assertEqual(tapes(floor), tuple(tape_names(house)))
        self.assertEqual(tapes(floor=FLOOR), tapes(FLOOR))

    def test_each_sort(self):
        for house, floor in zip(HOUSES, FLOORS):
            for name in right_names(house):
                self.assertIs(is_tape(floor, name), True, name)

    def test_letters_that_a_log_never_has(self):
        for name in ("log0-q", "log1-abq", "deeds-q", "deeds-cdz", "log1-abcdefghijklmnopqrstuvwxyz"):
            self.assertIs(is_tape(FLOOR, name), True, name)

    def test_other_strings(self):
        for name in WRONG_NAMES:
            self.assertIs(is_tape(FLOOR, name), False, name)

    def test_tapes_of_other_floors(self):
        for name in ("log0", "log0-a", "log1", "sight1"):
            self.assertIs(is_tape(Floor(BARE), name), False, name)
        self.assertIs(is_tape(Floor(CROWD), "log0"), True)
        self.assertIs(is_tape(Floor(CROWD), "log1"), False)
        self.assertIs(is_tape(Floor(CROWD), "log1-a"), False)
        self.assertIs(is_tape(Floor(CROWD), "sight2"), True)
        self.assertIs(is_tape(Floor(CROWD), "sight3"), False)

    def test_values_of_other_kinds(self):
        for thing in any_values() + [FLOOR, ("deeds",), ["deeds"], {"deeds": True}, b"deeds", 0, ("log0", "x")]:
            self.assertIs(is_tape(FLOOR, thing), False, repr(thing)[:80])
        self.assertIs(is_tape(thing="deeds", floor=FLOOR), True)

    def test_no_tape(self):
        calls = (
            lambda thing: written(FLOOR, thing, "ab"), lambda thing: mark_of(FLOOR, thing, 0, "a"),
            lambda thing: marks_on(FLOOR, thing),
        )
        for thing in WRONG_NAMES + tuple(any_values()):
            for call in calls:
                with self.assertRaises(NoTape) as caught:
                    call(thing)
                self.assertIs(caught.exception.thing, thing)


class Written(unittest.TestCase):
    def test_example(self):
        self.assertEqual(written(FLOOR, "sight0", "aba"), ("0", "a:1", "a:0"))
        self.assertEqual(written(FLOOR, "sight1", "aba"), ("-", "b:-"))
        self.assertEqual(written(FLOOR, "log1-x", "aba"), ("y",))
        self.assertEqual(written(FLOOR, "log1", "aba"), ("x", "y", "x"))
        self.assertEqual(written(FLOOR, "log0", "aba"), ("x", "x"))
        self.assertEqual(written(FLOOR, "deeds", "aba"), ("a", "b", "a"))
        self.assertEqual(written(FLOOR, "deeds-a", "aba"), ("b",))

    def test_empty_run(self):
        for floor in FLOORS:
            for name in right_names(floor.house):
                expected = writing(floor.house, name, "")
                self.assertEqual(written(floor, name, ""), expected)
                self.assertEqual(len(expected), int(name.startswith("sight")))

    def test_runs(self):
        for floor in FLOORS + (Floor(CROWD), Floor(AWAY_FROM_ENDS)):
            for run in runs(floor.house, 4):
                for name in right_names(floor.house):
                    found = written(floor, name, run)
                    self.assertEqual(found, writing(floor.house, name, run), (str(floor.house), name, run))
                    self.assertIs(type(found), tuple)

    def test_crowd(self):
        floor = Floor(CROWD)
        self.assertEqual(written(floor, "sight0", "abcbc"), ("-3,20", "a:3,20", "-3,20"))
        self.assertEqual(written(floor, "sight1", "abcbc"), ("-3", "3", "b:-", "b:-3"))
        self.assertEqual(written(floor, "sight2", "abcbc"), ("7", "c:7", "c:7"))
        self.assertEqual(written(floor, "log0", "abcbc"), ("m", "m", "c"))
        self.assertEqual(written(floor, "log0-m", "abcbc"), ("c",))
        self.assertEqual(written(floor, "deeds-abc", "abcbc"), ())

    def test_long_runs(self):
        self.assertEqual(written(FLOOR, "log1", "ab" * 30), ("x", "y") * 30)
        self.assertEqual(written(FLOOR, "sight0", "ab" * 30)[-1], "a:0")
        self.assertEqual(len(written(FLOOR, "sight0", "ab" * 30)), 31)
        self.assertEqual(len(written(FLOOR, "deeds", "a" * 2000)), 2000)

    def test_great_integers(self):
        house = made(attributes(MILL), looks=((((10 ** 39, -1),),), ((),)))
        self.assertEqual(written(Floor(house), "sight0", "a"), (str(10 ** 39), "a:" + str(10 ** 39 - 1)))

    def test_by_name(self):
        self.assertEqual(written(run="ab", tape="log1", floor=FLOOR), ("x", "y"))
        self.assertEqual(mark_of(deed="b", stand=0, tape="log1", floor=FLOOR), "y")
        self.assertEqual(marks_on(tape="log1", floor=FLOOR), ("x", "y"))


class Marks(unittest.TestCase):
    def test_mark_of(self):
        for floor in FLOORS + (Floor(CROWD), Floor(AWAY_FROM_ENDS)):
            house = floor.house
            for stand in range(len(floor)):
                first = floor.first_run(stand)
                for deed in letters(house):
                    for name in right_names(house):
                        found = mark_of(floor, name, stand, deed)
                        if run_state(house, first + deed) is None:
                            self.assertIsNone(found)
                        else:
                            self.assertEqual(found, walking.mark(house, name, first + deed))

    def test_nothing(self):
        self.assertEqual(mark_of(FLOOR, "log0", 0, "b"), "")
        self.assertEqual(mark_of(FLOOR, "sight0", 0, "b"), "")
        self.assertEqual(mark_of(FLOOR, "log1-y", 0, "b"), "")
        self.assertEqual(mark_of(FLOOR, "deeds-b", 1, "b"), "")
        self.assertEqual(mark_of(FLOOR, "sight1", 1, "b"), "b:-")
        self.assertIsNone(mark_of(Floor(BARE), "deeds", 0, "a"))
        self.assertIsNone(mark_of(Floor(BARE), "deeds-a", 0, "a"))
        self.assertIsNone(mark_of(Floor(BARE), "sight0", 0, "a"))

    def test_marks_on(self):
        for floor in FLOORS + (Floor(CROWD), Floor(AWAY_FROM_ENDS)):
            house = floor.house
            if len(floor) > 8:
                continue
            for name in right_names(house):
                found = set(writing(house, name, ""))
                for stand in range(len(floor)):
                    for deed in letters(house):
                        if run_state(house, floor.first_run(stand) + deed) is not None:
                            found.add(walking.mark(house, name, floor.first_run(stand) + deed))
                self.assertEqual(marks_on(floor, name), tuple(sorted(found - {""})), (str(house), name))

    def test_marks_of_runs(self):
        for floor in FLOORS[:12] + (Floor(CROWD),):
            for name in right_names(floor.house):
                found = {mark for run in runs(floor.house, 5) for mark in writing(floor.house, name, run)}
                self.assertLessEqual(found, set(marks_on(floor, name)))

    def test_marks_behind_runs_that_lead_to_no_day(self):
        floor = Floor(AWAY_FROM_ENDS)
        self.assertEqual(floor.useful, (0,))
        self.assertEqual(marks_on(floor, "deeds"), ("a", "b"))
        self.assertEqual(marks_on(floor, "log0"), ("x", "y"))
        self.assertEqual(marks_on(floor, "log0-y"), ("x",))
        self.assertEqual(marks_on(floor, "sight0"), ("5", "a:1", "b:1"))

    def test_deeds_that_are_never_done(self):
        self.assertEqual(marks_on(Floor(BARE), "deeds"), ())
        self.assertEqual(marks_on(Floor(BARE), "sight0"), ("-",))

    def test_first_mark_of_a_sight_comes_alone(self):
        # The register is set at once, and what was seen at first comes never again.
        self.assertIn("5", marks_on(Floor(AWAY_FROM_ENDS), "sight0"))

    def test_many(self):
        floor = Floor(CUBE)
        self.assertEqual(len(marks_on(floor, "deeds-b")), 3)
        self.assertEqual(len(written(floor, "sight0", "abcabcabc")), 10)
        found = marks_on(floor, "sight0")
        self.assertEqual(list(found), sorted(set(found)))

    def test_arguments_stay(self):
        ahead = copy.deepcopy(attributes(MILL))
        for _ in range(2):
            self.assertEqual(marks_on(FLOOR, "sight0"), ("0", "a:0", "a:1"))
            self.assertEqual(written(FLOOR, "sight0", "a"), ("0", "a:1"))
        thing = ["deeds"]
        self.assertIs(is_tape(FLOOR, thing), False)
        self.assertEqual(thing, ["deeds"])
        self.assertEqual(attributes(FLOOR.house), ahead)
