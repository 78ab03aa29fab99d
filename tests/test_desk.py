"""The desk: runs that are done deed by deed, and what some tapes surely tell behind them."""

import copy
import itertools
import random
import time
import unittest

from loghouse import desk as module
from loghouse.desk import Desk
from loghouse.errors import BadQuestion, CannotDo, NoTape, NothingToRedo, NothingToUndo
from loghouse.floors import Floor
from loghouse.paces import keep_pace
from loghouse.tapes import tapes
from tests import answering, walking
from tests.asks import DID, several
from tests.crowds import LOCKED, RACE, TESTED
from tests.listed import check_methods
from tests.samples import BARE, MILL, any_values, attributes
from tests.test_paces import APART, FORK, TURNS
from tests.test_tapes import CROWD, WRONG_NAMES
from tests.yards import HELD_BACK, QUEUE, bounded_house, one_person

HOUSES = (MILL, CROWD, TURNS, APART, FORK, QUEUE, HELD_BACK, LOCKED, RACE, TESTED) + tuple(
    house for house in (bounded_house(seed, people=2, logs=2) for seed in range(40)) if 2 <= len(Floor(house)) < 7
)
FLOORS = tuple(map(Floor, HOUSES))
FLOOR = FLOORS[0]


def desk_with(floor, run):
    desk = Desk(floor)
    for deed in run:
        desk.do(deed)
    return desk


class Listed(unittest.TestCase):
    def test_methods(self):
        check_methods(self, Desk, {
            "__init__": "floor", "__len__": "", "do": "deed", "undo": "", "redo": "", "tape": "tape",
            "sure": "row question", "done": "", "stand": "", "is_day": "",
        })
        for name in ("done", "stand", "is_day"):
            self.assertIsInstance(vars(Desk)[name], property)
        self.assertEqual(Desk.__module__, module.__name__)


class Working(unittest.TestCase):
    def same(self, desk, floor, run):
        self.assertIs(desk.floor, floor)
        self.assertEqual(desk.done, run)
        self.assertEqual(len(desk), len(run))
        self.assertEqual(desk.stand, floor.stand_of(run))
        self.assertIs(desk.is_day, walking.is_day(floor.house, run))
        for tape in tapes(floor) + ("deeds-ax",):
            self.assertEqual(desk.tape(tape), walking.writing(floor.house, tape, run))

    def test_begin(self):
        for floor in FLOORS + (Floor(BARE),):
            self.same(Desk(floor), floor, "")
        self.same(Desk(floor=FLOOR), FLOOR, "")

    def test_long_rows_of_calls(self):
        """Do, undo and redo in any order, beside a list of deeds and one of those that were taken back."""
        for seed, floor in enumerate(FLOORS * 2):
            dice = random.Random(seed)
            desk, run, undone = Desk(floor), [], []
            for _ in range(200):
                call = dice.choice(("do", "do", "do", "undo", "undo", "redo", "redo"))
                deed = dice.choice(walking.letters(floor.house) + ["q"])
                if call == "do":
                    if floor.stand_of("".join(run)) is not None and walking.run_state(floor.house, "".join(run) + deed):
                        self.assertIsNone(desk.do(deed))
                        run, undone = run + [deed], []
                    else:
                        with self.assertRaises(CannotDo) as caught:
                            desk.do(deed)
                        self.assertEqual(caught.exception.deed, deed)
                elif call == "undo":
                    if run:
                        self.assertIsNone(desk.undo())
                        undone.append(run.pop())
                    else:
                        with self.assertRaises(NothingToUndo):
                            desk.undo()
                elif undone:
                    self.assertIsNone(desk.redo())
                    run.append(undone.pop())
                else:
                    with self.assertRaises(NothingToRedo):
                        desk.redo()
                self.assertEqual((desk.done, len(desk)), ("".join(run), len(run)))
            self.same(desk, floor, "".join(run))

    def test_undo_to_the_empty_run_and_back(self):
        desk = desk_with(FLOOR, "abab")
        for run in ("aba", "ab", "a", ""):
            desk.undo()
            self.same(desk, FLOOR, run)
        for _ in range(3):
            self.assertRaises(NothingToUndo, desk.undo)
            self.same(desk, FLOOR, "")
        for run in ("a", "ab", "aba", "abab"):
            desk.redo()
            self.same(desk, FLOOR, run)
        self.assertRaises(NothingToRedo, desk.redo)
        self.same(desk, FLOOR, "abab")

    def test_redo_behind_a_do(self):
        desk = desk_with(FLOOR, "ab")
        desk.undo()
        desk.do("a")
        self.assertRaises(NothingToRedo, desk.redo)
        self.same(desk, FLOOR, "aa")
        desk.undo()
        desk.redo()
        self.same(desk, FLOOR, "aa")
        # The same deed is done, too.
        desk.undo()
        desk.do("a")
        self.assertRaises(NothingToRedo, desk.redo)

    def test_redo_behind_an_error(self):
        desk = desk_with(FLOOR, "abba")
        desk.undo()
        desk.undo()
        for call in (
            lambda: desk.do("c"), lambda: desk.do(None), lambda: desk.tape("log9"), lambda: desk.sure(("log9",), DID),
            lambda: desk.sure((), None),
        ):
            with self.assertRaises(Exception):
                call()
            self.same(desk, FLOOR, "ab")
        desk.redo()
        self.same(desk, FLOOR, "abb")
        self.assertRaises(CannotDo, desk.do, "abba")
        desk.redo()
        self.same(desk, FLOOR, "abba")

    def test_looks_and_answers_change_nothing(self):
        desk = desk_with(FLOOR, "aab")
        desk.undo()
        for _ in range(20):
            desk.tape("log1")
            desk.sure(("log1",), DID)
            self.assertEqual((desk.done, desk.stand, desk.is_day, len(desk)), ("aa", 0, True, 2))
        desk.redo()
        self.same(desk, FLOOR, "aab")

    def test_what_is_no_deed(self):
        desk = desk_with(FLOOR, "a")
        for thing in any_values() + ["c", "ab", "ba", "a ", "A", ("a",), ["a"], {"a": 1}, b"a", "deeds", FLOOR]:
            with self.assertRaises(CannotDo) as caught:
                desk.do(thing)
            self.assertIs(caught.exception.deed, thing)
            self.same(desk, FLOOR, "a")

    def test_deeds_that_cannot_be_done_here(self):
        floor = Floor(LOCKED)
        desk = Desk(floor)
        self.assertRaises(CannotDo, desk.do, "b")
        desk.do("a")
        desk.do("b")
        self.same(desk, floor, "ab")
        self.assertIs(desk.is_day, False)

    def test_two_desks_on_one_floor(self):
        one, other = Desk(FLOOR), Desk(FLOOR)
        one.do("a")
        self.same(other, FLOOR, "")
        other.do("b")
        other.undo()
        self.same(one, FLOOR, "a")
        self.assertRaises(NothingToRedo, one.redo)
        self.assertRaises(NothingToUndo, other.undo)
        other.redo()
        one.do("a")
        self.same(one, FLOOR, "aa")
        self.same(other, FLOOR, "b")

    def test_two_hundred_deeds(self):
        desk = desk_with(FLOOR, "ab" * 100)
        self.same(desk, FLOOR, "ab" * 100)
        self.assertIs(desk.sure(("deeds",), DID), True)

    def test_by_name(self):
        desk = Desk(FLOOR)
        desk.do(deed="a")
        self.assertEqual(desk.tape(tape="log0"), ("x",))
        self.assertIs(desk.sure(question=DID, row=("log0",)), True)

    def test_tapes_refused(self):
        desk = desk_with(FLOOR, "ab")
        for thing in WRONG_NAMES + tuple(any_values()):
            with self.assertRaises(NoTape) as caught:
                desk.tape(thing)
            self.assertIs(caught.exception.thing, thing)


class Sure(unittest.TestCase):
    def rows(self, floor):
        names = tapes(floor)
        found = [()] + [(tape,) for tape in names] + [("deeds-a",), names, names[::-1], ("deeds-b", names[1])]
        return found + list(itertools.combinations(names, 2))[::3]

    def test_all(self):
        met = set()
        for floor in FLOORS:
            runs = list(walking.runs(floor.house, 4))
            for row in self.rows(floor):
                for question in several(floor, 4):
                    for run in runs[::max(1, len(runs) // 4)]:
                        told = desk_with(floor, run).sure(row, question)
                        self.assertIs(told, answering.sure(floor.house, row, question, run), (row, question, run))
                        met.add(told)
        self.assertEqual(met, {True, False, None})

    def test_known(self):
        for run, row, question, told in (
            ("a", ("log0",), DID, True), ("b", ("log0",), DID, False), ("a", ("log0",), ("did", "deeds", "b"), None),
            ("ab", ("log1",), ("did", "deeds", "b"), True), ("a", (), ("sees", 1, ()), True), ("", (), DID, None),
            ("a", ("sight0",), ("sees", 0, (1,)), True), ("a", ("sight1",), ("sees", 0, (1,)), None),
            ("aa", ("log0",), ("sees", 0, (0,)), True), ("aab", ("log1-x",), ("did", "log1", "y"), True),
            ("", ("sight1",), ("did", "deeds", "b"), False), ("a", ("deeds-ab",), DID, None),
            ("", ("log0", "log1", "deeds", "sight0", "sight1"), ("not", DID), True),
        ):
            self.assertIs(desk_with(FLOOR, run).sure(row, question), told, (run, row, question))

    def test_tapes_that_keep_no_pace(self):
        self.assertIs(keep_pace(FLOOR, "log0", "log1"), False)
        desk = desk_with(FLOOR, "abb")
        self.assertIs(desk.sure(("log0", "log1"), ("did", "deeds", "b")), True)
        self.assertIs(desk.sure(("log0", "sight1"), ("did", "deeds", "b")), True)
        self.assertIs(desk.sure(("log0", "log1-y", "log0-x"), ("did", "deeds", "b")), None)

    def test_runs_behind_which_no_day_lies(self):
        """All runs are meant, also those from which no end is reached."""
        floor = Floor(APART)
        self.assertIs(desk_with(floor, "a").sure(("log0",), ("did", "deeds", "b")), None)
        self.assertIs(desk_with(floor, "a").sure(("log1",), ("did", "deeds", "b")), None)
        self.assertIs(desk_with(floor, "ab").sure(("log0", "log1"), ("did", "deeds", "b")), True)
        self.assertIs(desk_with(floor, "b").sure(("sight0",), ("did", "deeds", "b")), True)

    def test_all_tapes_at_once(self):
        for floor in FLOORS[:8]:
            for run in list(walking.runs(floor.house, 3))[::4]:
                desk = desk_with(floor, run)
                for question in several(floor, 12):
                    self.assertIs(desk.sure(tapes(floor), question), answering.answer(floor.house, question, run))

    def test_many_blotted_tapes(self):
        row = tuple(f"log1-{letter}" for letter in "abcdefghijklmnopqrstuvwxyz") + tuple(
            f"deeds-{letter}" for letter in "abcdefghijklmnopqrstuvwxyz"
        )
        self.assertIs(desk_with(FLOOR, "abab").sure(row, ("did", "log0", "x")), True)

    def test_twenty_thousand_combinations(self):
        floor = Floor(one_person(
            (0,), (0,), (
                (0, "a", 0, ((1, -1),), ("x", "")), (0, "b", 0, ((0, 1),), ("", "y")), (0, "c", 0, ((0, 1),), ("", "")),
            ), (((0, 1),),), deeds="abc", logs=2,
        ))
        desk = desk_with(floor, "a" * 99 + "b" * 99)
        begin = time.process_time()
        self.assertIs(desk.sure(("log0", "log1"), DID), True)
        self.assertIs(desk.sure(("log0", "log1"), ("did", "deeds", "c")), None)
        self.assertIs(desk.sure(("log0", "log1"), ("sees", 0, (1,))), True)
        self.assertLess(time.process_time() - begin, 4)

    def test_arguments_stay(self):
        kept = copy.deepcopy(attributes(MILL))
        question = ("both", DID, ("not", ("sees", 0, (0,))))
        desk = desk_with(FLOOR, "ab")
        self.assertEqual(desk.sure(("log0",), question), desk.sure(("log0",), question))
        self.assertEqual(attributes(MILL), kept)
        self.assertEqual(question, ("both", DID, ("not", ("sees", 0, (0,)))))

    def refused(self, error, row, question, thing):
        with self.assertRaises(error) as caught:
            desk_with(FLOOR, "ab").sure(row, question)
        self.assertIs(caught.exception.thing, thing)

    def test_rows_refused(self):
        for thing in any_values() + ["log0", ["log0"], {"log0": 1}, FLOOR]:
            for question in (DID, None, thing):
                if not isinstance(thing, tuple):
                    self.refused(NoTape, thing, question, thing)
        for thing in WRONG_NAMES + tuple(any_values()):
            for row in ((thing,), ("log0", thing), ("log0", "log0", thing), ("log0", "log1", thing, None), (thing, "log9")):
                self.refused(NoTape, row, None, thing)
        for row in (("log0", "log0"), ("log0", "log1", "log0"), ("deeds-a", "deeds-a")):
            self.refused(NoTape, row, None, row)
            self.refused(NoTape, row, DID, row)

    def test_questions_refused(self):
        for thing in any_values() + [("did", "log9", "x"), ("sees", 2, ()), "did deeds a"]:
            for row in ((), ("log0",), ("log0", "log1")):
                self.refused(BadQuestion, row, thing, thing)


if __name__ == "__main__":
    unittest.main()
