"""Slits: views, papers, least slits."""

import copy
import itertools
import unittest

from loghouse import slits as module
from loghouse.errors import BadQuestion, NoTape
from loghouse.floors import Floor
from loghouse.questions import answer, does_answer, is_fixed
from loghouse.slits import least_slits, slit_asked, slit_holds, view
from loghouse.tapes import marks_on, written
from tests import answering, walking
from tests.altering import altered
from tests.answering import slit_right, slit_rows
from tests.asks import DID, several, simple
from tests.listed import check_functions
from tests.samples import BARE, MILL, MILL_PARTS, any_values, attributes, made
from tests.test_paces import APART, FORK, TURNS
from tests.test_tapes import WRONG_NAMES
from tests.yards import HELD_BACK, NEVER, bounded_house, one_person

SLITS = tuple(itertools.product((1, 2, 3), repeat=2))
FLOORS = tuple(map(Floor, (MILL, BARE, TURNS, APART, FORK, HELD_BACK, NEVER) + tuple(
    house for house in (bounded_house(seed, people=2, logs=1, most_deeds=2) for seed in range(60))
    if 2 <= len(Floor(house).useful) < 5
)))
FLOOR = FLOORS[0]


def counter(least):
    """Up to three deeds a, each with a mark x, then b; at the end it is seen whether there were so many deeds a."""
    look = tuple(int(at == least) for at in range(4))
    return Floor(one_person(
        (0, 0, 0), (1,), (
            (0, "a", 0, ((1, 0, 0, 0), (0, 1, 0, 0), (0, 0, 1, 0)), ("x",)),
            (0, "b", 1, ((0, 1, 0, 0), (0, 0, 1, 0), (0, 0, 0, 1)), ("",)),
        ), ((), (look,)), tests=((0, "a", (0, 0, 0, 1), 0, 0),), logs=1,
    ))


# Pairs of two last letters are seen; any letters x and y are written, one in each place.
LAST = Floor(one_person(
    (0, 0), (0,), tuple(
        (0, deed, 0, ((at, 0, 0), (0, 1, 0)), ("xy"[at],)) for at, deed in enumerate("ab")
    ), (((0, 1, 0), (0, 0, 1)),), logs=1,
))


def is_small(floor, tape, slit):
    """Whether there cannot be too many views."""
    return (slit[1] + 1) ** (len(marks_on(floor, tape)) ** slit[0]) < 82


class Listed(unittest.TestCase):
    def test_functions(self):
        check_functions(self, module, {
            "view": "slit marks", "slit_asked": "floor tape slit question",
            "slit_holds": "floor tape slit question thing", "least_slits": "floor tape question",
        })


class View(unittest.TestCase):
    def test_all_short_tuples(self):
        for length in range(8):
            for marks in itertools.product(("x", "y"), repeat=length):
                for slit in SLITS:
                    self.assertEqual(view(slit, marks), answering.view(slit, marks))

    def test_example(self):
        self.assertEqual(
            view((2, 1), ("x", "y", "x")), ("slit", ("x",), ("x",), ((("x", "y"), 1), (("y", "x"), 1))),
        )

    def test_fewer_marks(self):
        self.assertEqual(view((1, 1), ()), ("whole", ()))
        self.assertEqual(view((2, 3), ("x",)), ("whole", ("x",)))
        self.assertEqual(view((3, 2), ("x", "a:1")), ("whole", ("x", "a:1")))

    def test_just_as_many(self):
        self.assertEqual(view((1, 3), ("x",)), ("slit", (), (), ((("x",), 1),)))
        self.assertEqual(view((2, 1), ("x", "y")), ("slit", ("x",), ("y",), ((("x", "y"), 1),)))
        self.assertEqual(view((3, 3), ("x", "y", "z")), ("slit", ("x", "y"), ("y", "z"), ((("x", "y", "z"), 1),)))

    def test_pieces_that_come_often(self):
        for most in (1, 2, 3):
            for count in range(1, 7):
                self.assertEqual(view((1, most), ("x",) * count), ("slit", (), (), ((("x",), min(count, most)),)))
                self.assertEqual(
                    view((2, most), ("x",) * (count + 1)), ("slit", ("x",), ("x",), ((("x", "x"), min(count, most)),)),
                )

    def test_order_of_pieces(self):
        self.assertEqual(view((1, 2), ("b", "a:10", "a:9", "b")), ("slit", (), (), (
            (("a:10",), 1), (("a:9",), 1), (("b",), 2),
        )))

    def test_hundred_marks(self):
        marks = ("x", "y", "z", "y") * 25
        for slit in SLITS:
            self.assertEqual(view(marks=marks, slit=slit), answering.view(slit, marks))


class SlitAsked(unittest.TestCase):
    def check(self, floor, tape, slit, question):
        rows = slit_rows(floor, tape, slit, question)
        paper = slit_asked(floor, tape, slit, question)
        told = all(len(answers) == 1 for answers in rows.values())
        self.assertEqual(paper[0], "seen" if told else "parts")
        self.assertTrue(slit_right(floor, tape, slit, question, paper), paper)
        self.assertIs(slit_holds(floor, tape, slit, question, paper), True)
        return told

    def test_all(self):
        """Houses whose days are endlessly many, too."""
        for floor in FLOORS + (LAST,):
            for tape in walking.tape_names(floor.house)[:3]:
                for question in several(floor, 3):
                    for slit in [slit for slit in SLITS if is_small(floor, tape, slit)]:
                        with self.subTest(house=str(floor.house), tape=tape, slit=slit, question=question):
                            self.check(floor, tape, slit, question)

    def test_greater_numbers(self):
        for slit in ((1, 2), (1, 3), (2, 1), (2, 2), (3, 1)):
            self.check(FLOOR, "log1", slit, ("both", DID, ("did", "log1", "y")))
            self.check(LAST, "log0", slit, ("sees", 0, (1, 0)))
        for slit in SLITS:
            self.check(FLOOR, "log0", slit, ("sees", 0, (1,)))

    def test_by_days(self):
        for least in (1, 2, 3):
            floor = counter(least)
            days = walking.days(floor.house, 9)
            self.assertEqual(days, ["b", "ab", "aab", "aaab"])
            for question in (("sees", 0, (1,)), ("did", "deeds", "a"), ("not", ("sees", 0, (0,)))):
                for tape, slit in itertools.product(("log0", "deeds", "sight0"), SLITS):
                    groups = {}
                    for day in days:
                        key = answering.view(slit, walking.writing(floor.house, tape, day))
                        groups.setdefault(key, set()).add(answering.answer(floor.house, question, day))
                    self.assertEqual(groups, slit_rows(floor, tape, slit, question))
                    self.assertIs(self.check(floor, tape, slit, question), all(len(row) == 1 for row in groups.values()))

    def test_paper_known(self):
        self.assertEqual(slit_asked(counter(2), "log0", (1, 2), ("sees", 0, (1,))), ("seen", (
            (("slit", (), (), ((("x",), 1),)), False), (("slit", (), (), ((("x",), 2),)), True), (("whole", ()), False),
        )))
        self.assertEqual(slit_asked(counter(2), "log0", (1, 1), ("sees", 0, (1,)))[0], "parts")
        self.assertIs(slit_holds(counter(3), "log0", (1, 1), ("sees", 0, (1,)), ("parts", "aaab", "aab")), True)

    def test_order_of_days(self):
        for question in (("sees", 0, (1,)), ("not", ("sees", 0, (1,)))):
            _, day, further = slit_asked(FLOOR, "deeds", (1, 1), question)
            self.assertIs(answer(FLOOR, question, day), True)
            self.assertIs(answer(FLOOR, question, further), False)
            self.assertIs(slit_holds(FLOOR, "deeds", (1, 1), question, ("parts", further, day)), False)

    def test_no_days(self):
        for floor in (Floor(BARE), Floor(made(MILL_PARTS, ends=()))):
            for question in simple(floor):
                for slit in ((1, 1), (3, 3)):
                    self.assertEqual(slit_asked(floor, "sight0", slit, question), ("seen", ()))
                    self.assertIs(slit_holds(floor, "sight0", slit, question, ("seen", ())), True)
                    self.assertIs(
                        slit_holds(floor, "deeds", slit, question, ("seen", ((("whole", ()), True),))), False,
                    )

    def test_no_more_than_the_tape(self):
        for floor in FLOORS:
            for tape in walking.tape_names(floor.house)[:3]:
                for question in several(floor, 6):
                    if not does_answer(floor, (tape,), question):
                        self.assertEqual(slit_asked(floor, tape, (2, 2), question)[0], "parts")

    def test_by_name(self):
        self.assertEqual(slit_asked(question=DID, slit=(1, 1), tape="deeds", floor=FLOOR)[0], "seen")
        self.assertIs(slit_holds(thing=None, question=DID, slit=(1, 1), tape="deeds", floor=FLOOR), False)
        self.assertEqual(least_slits(question=DID, tape="deeds", floor=FLOOR), ((1, 1),))

    def test_same_again(self):
        ahead = copy.deepcopy(attributes(MILL))
        for slit in ((1, 1), (1, 3), (2, 1), (3, 1)):
            self.assertEqual(slit_asked(FLOOR, "log1", slit, DID), slit_asked(FLOOR, "log1", slit, DID))
        self.assertEqual(attributes(MILL), ahead)


class Holds(unittest.TestCase):
    def check(self, floor, tape, slit, question, thing):
        right = slit_right(floor, tape, slit, question, thing)
        self.assertIs(slit_holds(floor, tape, slit, question, thing), right, (tape, slit, question, thing))
        return right

    def test_changed_rows(self):
        for floor in FLOORS[::2]:
            for tape in walking.tape_names(floor.house)[:2]:
                for question in several(floor, 4):
                    for slit in ((1, 1), (1, 2), (2, 1)):
                        kind, *rows = slit_asked(floor, tape, slit, question)
                        if kind == "parts" or len(rows[0]) > 12:
                            continue
                        self.changed(floor, tape, slit, question, rows[0])

    def changed(self, floor, tape, slit, question, rows):
        for at, (seen, told) in enumerate(rows):
            for thing in (
                rows[:at] + rows[at + 1:], rows[:at + 1] + rows[at:], rows[:at] + ((seen, not told),) + rows[at + 1:],
                rows[:at] + ((seen, int(told)),) + rows[at + 1:], rows[:at] + ([seen, told],) + rows[at + 1:],
                rows[at:] + rows[:at] if at else rows[::-1] + rows[:1], rows[:at] + ((seen,),) + rows[at + 1:],
                rows[:at] + ((seen, not told),) + rows[at:],
            ):
                self.assertFalse(self.check(floor, tape, slit, question, ("seen", thing)))
        self.assertFalse(self.check(floor, tape, slit, question, ("seen", rows + ((("whole", ("??",)), True),))))
        self.assertFalse(self.check(floor, tape, slit, question, ("seen", list(rows))))
        self.assertFalse(self.check(floor, tape, slit, question, ("told", rows)))

    def test_altered_papers(self):
        for floor, tape, slit, question in (
            (FLOOR, "log0", (1, 1), ("did", "log0", "x")), (FLOOR, "deeds", (1, 1), DID),
            (counter(2), "log0", (1, 2), ("sees", 0, (1,))), (counter(2), "log0", (2, 1), ("sees", 0, (1,))),
            (FLOOR, "deeds", (2, 1), ("sees", 0, (1,))), (LAST, "log0", (2, 1), ("sees", 0, (0, 1))),
        ):
            paper = slit_asked(floor, tape, slit, question)
            for thing in altered(paper):
                self.check(floor, tape, slit, question, thing)

    def test_counts_that_are_bools(self):
        paper = slit_asked(counter(2), "log0", (1, 2), ("sees", 0, (1,)))
        rows = list(paper[1])
        rows[0] = (("slit", (), (), ((("x",), True),)), False)
        self.assertFalse(self.check(counter(2), "log0", (1, 2), ("sees", 0, (1,)), ("seen", tuple(rows))))

    def test_rows_where_the_slit_does_not_tell(self):
        question = ("sees", 0, (1,))
        rows = slit_rows(counter(2), "log0", (1, 1), question)
        for told in (True, False):
            thing = ("seen", tuple(sorted((seen, told if len(row) > 1 else min(row)) for seen, row in rows.items())))
            self.assertFalse(self.check(counter(2), "log0", (1, 1), question, thing))

    def test_days(self):
        question = ("did", "deeds", "b")
        for day, further, right in (
            ("b", "", True), ("", "b", False), ("ab", "a", True), ("aab", "a", True), ("ab", "aa", True), ("b", "a", False),
            ("ba", "b", False), ("b" * 200, "", True), ("c", "", False), ("b", None, False), (("b",), "", False),
        ):
            self.assertIs(self.check(FLOOR, "log0", (1, 1), question, ("parts", day, further)), right)
            self.assertFalse(self.check(FLOOR, "log1", (1, 1), question, ("parts", day, further)))
        self.assertFalse(self.check(FLOOR, "log0", (1, 2), question, ("parts", "aab", "a")))
        self.assertFalse(self.check(FLOOR, "log0", (2, 1), question, ("parts", "aab", "a")))
        self.assertTrue(self.check(FLOOR, "log0", (2, 1), question, ("parts", "aaab", "aa")))
        self.assertFalse(self.check(FLOOR, "log0", (2, 2), question, ("parts", "aaab", "aa")))

    def test_runs_that_are_no_days(self):
        floor = Floor(FORK)
        question = ("did", "deeds", "b")
        self.assertTrue(self.check(floor, "deeds-abc", (1, 1), question, ("parts", "b", "aa")))
        self.assertFalse(self.check(floor, "deeds-abc", (1, 1), question, ("parts", "b", "a")))
        self.assertFalse(self.check(floor, "deeds-abc", (1, 1), question, ("parts", "b", "")))

    def test_any_values(self):
        for thing in any_values() + ["seen", ("seen",), ("seen", None), ("parts",), ("parts", "b"), FLOOR]:
            for paper in (thing, ("seen", thing), ("seen", (thing,)), ("seen", ((thing, True),)), ("parts", thing, ""),
                          ("seen", ((("whole", ()), thing),)), ("parts", "b", thing)):
                self.check(FLOOR, "log0", (1, 1), ("did", "log0", "x"), paper)
                self.check(FLOOR, "log0", (1, 1), ("did", "deeds", "b"), paper)

    def test_papers_of_others(self):
        found = [
            (tape, slit, question, slit_asked(FLOOR, tape, slit, question))
            for tape in ("deeds", "log0", "log1") for slit in ((1, 1), (1, 2), (2, 1)) for question in several(FLOOR, 5)
        ]
        for tape, slit, question, _ in found[::4]:
            for _, _, _, paper in found:
                self.check(FLOOR, tape, slit, question, paper)

    def test_thing_stays(self):
        thing = ("seen", [[("whole", []), {"a": [1]}]])
        kept = copy.deepcopy(thing)
        slit_holds(FLOOR, "deeds", (1, 1), DID, thing)
        self.assertEqual(thing, kept)


class LeastSlits(unittest.TestCase):
    def test_by_all_slits(self):
        for floor in FLOORS + (LAST,):
            for tape in walking.tape_names(floor.house)[:3]:
                for question in several(floor, 4):
                    small = [slit for slit in SLITS if is_small(floor, tape, slit)]
                    telling = [
                        slit for slit in small
                        if all(len(row) == 1 for row in slit_rows(floor, tape, slit, question).values())
                    ]
                    least = [
                        slit for slit in telling
                        if (slit[0] - 1, slit[1]) not in telling and (slit[0], slit[1] - 1) not in telling
                    ]
                    if len(marks_on(floor, tape)) < 3 or least != [] and least[0] == (1, 1):
                        found = least_slits(floor, tape, question)
                        self.assertEqual([slit for slit in found if slit in small], least)
                        self.assertEqual(list(found), sorted(found))

    def test_known(self):
        question = ("sees", 0, (1,))
        self.assertEqual(least_slits(counter(1), "log0", question), ((1, 1),))
        self.assertEqual(least_slits(counter(2), "log0", question), ((1, 2), (2, 1)))
        self.assertEqual(least_slits(counter(3), "log0", question), ((1, 3), (2, 2), (3, 1)))
        self.assertEqual(least_slits(counter(3), "log0-x", question), ())
        self.assertEqual(least_slits(LAST, "log0", ("sees", 0, (1, 0))), ((3, 1),))

    def test_no_greater_numbers(self):
        """Wider slits than three, or counts of more than three, would tell; there are none."""
        first = one_person(
            (0, 0, 0), (2,), (
                (0, "a", 1, ((0, 1, 0, 0), (0, 0, 1, 0), (0, 0, 0, 1)), ("x",)),
                (1, "a", 1, ((1, 0, 0, 0), (0, 1, 0, 0), (0, 0, 1, 0)), ("x",)),
                (1, "b", 2, ((0, 1, 0, 0), (0, 0, 1, 0), (0, 0, 0, 1)), ("",)),
            ), ((), (), ((0, 0, 0, 1),)), tests=((1, "a", (0, 0, 0, 1), 0, 0),), logs=1,
        )
        self.assertEqual(walking.days(first, 9), ["ab", "aab", "aaab", "aaaab"])
        self.assertEqual(least_slits(Floor(first), "log0", ("sees", 0, (1,))), ((2, 3), (3, 2)))
        third = Floor(one_person(
            (0, 0, 0), (0,), tuple(
                (0, deed, 0, ((at, 0, 0, 0), (0, 1, 0, 0), (0, 0, 1, 0)), ("xy"[at],)) for at, deed in enumerate("ab")
            ), (((0, 0, 0, 1),),), logs=1,
        ))
        self.assertEqual(least_slits(third, "log0", ("sees", 0, (1,))), ())

    def test_none_at_all(self):
        self.assertEqual(least_slits(FLOOR, "log0", ("did", "deeds", "b")), ())
        self.assertEqual(least_slits(FLOOR, "deeds", ("sees", 0, (1,))), ())

    def test_fixed_questions(self):
        for floor in FLOORS:
            for question in several(floor, 12):
                if is_fixed(floor, question):
                    self.assertEqual(least_slits(floor, "deeds", question), ((1, 1),))

    def test_papers(self):
        for least in (1, 2, 3):
            for tape in ("log0", "deeds", "sight0"):
                floor, question = counter(least), ("sees", 0, (1,))
                found = least_slits(floor, tape, question)
                for slit in SLITS:
                    told = any(one[0] <= slit[0] and one[1] <= slit[1] for one in found)
                    self.assertEqual(slit_asked(floor, tape, slit, question)[0], "seen" if told else "parts")


class Refused(unittest.TestCase):
    CALLS = (
        lambda floor, tape, question: slit_asked(floor, tape, (1, 1), question),
        lambda floor, tape, question: slit_holds(floor, tape, (2, 3), question, ("seen", ())),
        least_slits,
    )

    def refused(self, error, tape, question, thing):
        for call in self.CALLS:
            with self.assertRaises(error) as caught:
                call(FLOOR, tape, question)
            self.assertIs(caught.exception.thing, thing)

    def test_tapes(self):
        for thing in WRONG_NAMES + tuple(any_values()) + (("deeds",),):
            for question in (DID, None, thing):
                self.refused(NoTape, thing, question, thing)

    def test_questions(self):
        for thing in any_values() + [("did", "log9", "x"), ("sees", 2, ()), "did deeds a"]:
            self.refused(BadQuestion, "deeds", thing, thing)

    def test_writing_of_the_tape_alone_matters(self):
        self.assertEqual(written(FLOOR, "log0", "ab"), written(FLOOR, "log0", "ba"))


if __name__ == "__main__":
    unittest.main()
