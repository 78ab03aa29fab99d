"""Floors: stands, their order, what they show, and rows that part floors."""

import copy
import itertools
import unittest

from loghouse import floors
from loghouse.errors import Beyond, CannotDo, Unlike
from loghouse.floors import Floor, parting_row
from loghouse.values import judge_bounds
from tests import walking
from tests.listed import check_functions, check_methods
from tests.papers import bounds_right
from tests.samples import BARE, FULL, MILL, MILL_PARTS, YARD, any_values, attributes, made
from tests.walking import behaviour, letters, machine, run_state, runs, strings
from tests.yards import AWAY, BLIND, CUBE, FOURTH, HELD, LEVEL, MIDDLE, SIXTH, UNBOUNDED, bounded_house
from tests.yards import one_person, put_in_all_ways

RANDOM = tuple(bounded_house(seed) for seed in range(80))
STAYING = (MILL, BARE, SIXTH, FOURTH, MIDDLE, AWAY) + RANDOM

# A register turned about 0; the deeds can be done only at one of both values, or at none.
GATE = one_person(
    (2,), (0,),
    ((0, "a", 0, ((0, -1),), ("x",)), (0, "b", 0, ((0, 1),), ("y",)), (0, "c", 0, ((0, 1),), ("",))),
    ((),), tests=(
        (0, "a", (1, 1), -1, 3), (0, "b", (0, 1), -2, -1), (0, "c", (0, 1), -1, 1),
    ), deeds="abcd", logs=1,
)
# The place 1 is an end; the place 2 is left by no deed, and from the place 0 there is a way to both.
TRAP = one_person(
    (0,), (1,),
    ((0, "a", 1, ((0, 1),), ()), (0, "b", 2, ((0, 1),), ()), (1, "a", 0, ((0, 1),), ()), (2, "c", 2, ((0, 1),), ())),
    ((), (), ()), deeds="abc",
)
# The end is never reached, for no test lets a deed lead there.
CLOSED = one_person(
    (0,), (1,), ((0, "a", 1, ((0, 1),), ()), (0, "b", 0, ((1, -1),), ())), (((0, 1),), ()),
    tests=((0, "a", (0, 1), 2, 5),),
)


def told_apart(house, other, row):
    """Whether a string of deeds tells two houses apart, by [10]."""
    state, there = run_state(house, row), run_state(other, row)
    if state is None or there is None:
        return (state is None) != (there is None)
    if row:
        written = [walking.arrow_of(one, run_state(one, row[:-1])[0], row[-1])[4] for one in (house, other)]
        if written[0] != written[1]:
            return True
    return behaviour(house, state)[:2] != behaviour(other, there)[:2]


class Listed(unittest.TestCase):
    def test_functions_and_methods(self):
        check_functions(self, floors, {"parting_row": "floor other"})
        self.assertEqual(Floor.__module__, "loghouse.floors")
        check_methods(self, Floor, {
            "__init__": "house", "__len__": "", "__eq__": "other", "step": "stand deed", "marks": "stand deed",
            "seen": "stand person", "is_end": "stand", "first_run": "stand", "stand_of": "run", "useful": "",
        })
        self.assertIsInstance(vars(Floor)["useful"], property)


class Stands(unittest.TestCase):
    def check(self, house):
        floor, rows = Floor(house), machine(house)
        self.assertEqual(len(floor), len(rows))
        for stand, (first, shown, steps) in enumerate(rows):
            self.assertEqual(floor.first_run(stand), first)
            self.assertEqual(tuple(floor.seen(stand, person) for person in range(house.people)), shown[0])
            self.assertIs(floor.is_end(stand), shown[1])
            for (deed, _), written in zip(house.deeds, shown[2]):
                self.assertEqual(floor.step(stand, deed), steps.get(deed))
                self.assertEqual(floor.marks(stand, deed), written and written[1])

    def test_small_houses(self):
        for house in STAYING + (GATE, TRAP, CLOSED):
            if len(judge_bounds(house)[2]) < 40:
                with self.subTest(house=str(house)):
                    self.check(house)

    def test_example(self):
        floor = Floor(MILL)
        self.assertEqual(len(floor), 2)
        self.assertEqual(floor.step(0, "a"), 1)
        self.assertEqual(floor.step(1, "a"), 0)
        self.assertEqual(floor.step(1, "b"), 1)
        self.assertEqual(floor.marks(0, "a"), ("x", "x"))
        self.assertEqual(floor.marks(1, "b"), ("", "y"))
        self.assertEqual([floor.seen(stand, person) for stand in (0, 1) for person in (0, 1)], [(0,), (), (1,), ()])
        self.assertEqual(floor.useful, (0, 1))

    def test_runs_come_to_stands_by_what_they_do(self):
        for house in (MIDDLE, GATE, TRAP) + RANDOM[:15]:
            floor = Floor(house)
            behind = {run: floor.stand_of(run) for run in runs(house, 4)}
            tails = list(strings(house, 3))
            shown = {
                run: [run_state(house, run + tail) and behaviour(house, run_state(house, run + tail)) for tail in tails]
                for run in behind
            }
            for one, two in itertools.combinations(behind, 2):
                if behind[one] == behind[two]:
                    self.assertEqual(shown[one], shown[two])

    def test_numbering_by_first_runs(self):
        for house in STAYING + (CUBE,):
            floor = Floor(house)
            first = [floor.first_run(stand) for stand in range(len(floor))]
            self.assertEqual(first, sorted(first, key=lambda run: (len(run), run)))
            self.assertEqual(first[0], "")
            self.assertEqual([floor.stand_of(run) for run in first], list(range(len(floor))))
        for house in RANDOM[:20]:
            floor = Floor(house)
            met = list(dict.fromkeys(floor.stand_of(run) for run in runs(house, 5)))
            self.assertEqual(met, list(range(len(met))))

    def test_sixty_stands(self):
        floor = Floor(CUBE)
        self.assertEqual(len(floor), 60)
        self.assertEqual(floor.useful, tuple(range(60)))
        self.assertEqual(len([stand for stand in range(60) if floor.is_end(stand)]), 6)
        for stand in range(60):
            run = floor.first_run(stand)
            shown = behaviour(CUBE, run_state(CUBE, run))
            self.assertEqual(((floor.seen(stand, 0),), floor.is_end(stand)), shown[:2])
            for deed in "abcd":
                if run_state(CUBE, run + deed):
                    self.assertEqual(floor.step(stand, deed), floor.stand_of(run + deed))
                else:
                    self.assertIsNone(floor.step(stand, deed))

    def test_one_stand(self):
        for house in (BARE, BLIND, AWAY, LEVEL):
            self.assertEqual(len(Floor(house)), 1)
        self.assertIsNone(Floor(BARE).step(0, "a"))
        self.assertIsNone(Floor(BARE).marks(0, "a"))
        self.assertEqual(Floor(BLIND).step(0, "a"), 0)
        self.assertEqual(Floor(BLIND).marks(0, "a"), ())
        self.assertEqual(Floor(LEVEL).seen(0, 0), (7, -19))

    def test_registers_that_go_on_unseen(self):
        # The register grows, but only what it is set to then is looked at.
        house = one_person(
            (0,), (1,), ((0, "a", 0, ((1, 1),), ()), (0, "b", 1, ((5, 0),), ())), ((), ((0, 1),)),
        )
        self.assertEqual(len(Floor(house)), 2)

    def test_equal_values_at_unlike_places(self):
        # Both places show and do the same; one more is an end, or writes another mark.
        parts = dict(
            people=1, deeds=(("a", 0),), start=(0,), places=2, ends=(0, 1), logs=1, tests=(),
            arrows=((0, "a", 1, ((0, 1),), ("x",)), (1, "a", 0, ((0, 1),), ("x",))), looks=(((), ()),),
        )
        self.assertEqual(len(Floor(made(parts))), 1)
        self.assertEqual(len(Floor(made(parts, ends=(1,)))), 2)
        self.assertEqual(len(Floor(made(parts, looks=(((), ((3, 0),)),)))), 2)
        self.assertEqual(len(Floor(made(parts, tests=((1, "a", (0, 1), 1, 9),)))), 2)
        other = (parts["arrows"][0], (1, "a", 0, ((0, 1),), ("",)))
        self.assertEqual(len(Floor(made(parts, arrows=other))), 2)

    def test_stands_that_differ_only_later(self):
        # The deed counts down from 5; only the last step is seen.
        house = one_person(
            (5, 0), (0,),
            ((0, "a", 0, ((0, 0, 1), (0, -1, 0)), ()), (0, "b", 0, ((0, 1, 0), (0, 0, 1)), ())),
            ((),), tests=((0, "b", (0, 1, 1), -5, -5),),
        )
        # The registers are (5, 0), (0, -5), (-5, 0), (0, 5): the sum is -5 at two of them.
        self.assertEqual([Floor(house).step(stand, "b") for stand in range(len(Floor(house)))], [None, 1, 2, None])

    def test_numbers_by_which_tests_are_kept(self):
        floor = Floor(GATE)
        self.assertEqual([floor.step(0, deed) for deed in "abcd"], [1, None, None, None])
        self.assertEqual([floor.step(1, deed) for deed in "abcd"], [0, 1, None, None])
        self.assertEqual(floor.marks(1, "b"), ("y",))
        self.assertIsNone(floor.marks(0, "b"))

    def test_all_tests_of_an_arrow_are_asked(self):
        for tests, can in (
            (((0, "a", (0, 1), 0, 0),), True), (((0, "a", (0, 1), 1, 1),), False),
            (((0, "a", (0, 1), 0, 0), (0, "a", (0, 1), 0, 1), (0, "a", (4, 0), 4, 4)), True),
            (((0, "a", (0, 1), 0, 0), (0, "a", (0, 1), 1, 1)), False),
            (((0, "a", (0, 1), -1, -1), (0, "a", (0, 1), 0, 0)), False),
            (((0, "b", (0, 1), 1, 1),), True),
        ):
            self.assertIs(Floor(made(MILL_PARTS, tests=tests)).step(0, "a") is not None, can)

    def test_useful(self):
        self.assertEqual(Floor(TRAP).useful, (0, 1))
        self.assertEqual(len(Floor(TRAP)), 3)
        self.assertEqual(Floor(CLOSED).useful, ())
        self.assertEqual(Floor(BARE).useful, ())
        self.assertEqual(Floor(made(attributes(BARE), ends=(0,))).useful, (0,))
        for house in RANDOM:
            floor = Floor(house)
            self.assertIs(type(floor.useful), tuple)
            useful = {stand for stand in range(len(floor)) if floor.is_end(stand)}
            for _ in range(len(floor)):
                useful |= {
                    stand for stand in range(len(floor)) for deed in letters(house) if floor.step(stand, deed) in useful
                }
            self.assertEqual(floor.useful, tuple(sorted(useful)))

    def test_useful_by_days(self):
        for house in RANDOM[:30] + (TRAP, CLOSED, GATE):
            floor = Floor(house)
            if len(floor) < 6:
                met = {
                    floor.stand_of(day[:at]) for day in walking.days(house, 7) for at in range(len(day) + 1)
                }
                self.assertEqual(floor.useful, tuple(sorted(met)))


class OtherRegisters(unittest.TestCase):
    """The same house told by other registers, sums of the old ones, has the same floor."""

    def test_floors_are_equal(self):
        for house in STAYING + (GATE, TRAP, CLOSED, CUBE):
            floor = Floor(house)
            for other in put_in_all_ways(house):
                self.assertEqual(Floor(other), floor)
                self.assertIsNone(parting_row(Floor(other), floor))

    def test_beyond(self):
        for house in UNBOUNDED + (YARD, FULL):
            for other in put_in_all_ways(house):
                with self.assertRaises(Beyond) as caught:
                    Floor(other)
                self.assertTrue(bounds_right(other, caught.exception.paper))


class Others(unittest.TestCase):
    def test_house(self):
        self.assertEqual(Floor(MILL).house, MILL)
        self.assertEqual(Floor(house=CUBE).house, CUBE)

    def test_beyond(self):
        for house in (YARD, FULL) + UNBOUNDED:
            with self.assertRaises(Beyond) as caught:
                Floor(house)
            self.assertEqual(caught.exception.paper[0], "beyond")
            self.assertTrue(bounds_right(house, caught.exception.paper))

    def test_tests_do_not_keep_a_house_within_bounds(self):
        # All runs stay between -5 and 5.
        self.assertTrue(all(-5 <= run_state(HELD, run)[1][0] <= 5 for run in runs(HELD, 8)))
        with self.assertRaises(Beyond) as caught:
            Floor(HELD)
        self.assertTrue(bounds_right(HELD, caught.exception.paper))

    def test_stand_of(self):
        for house in (MILL, MIDDLE, GATE, TRAP, BARE) + RANDOM[:10]:
            floor = Floor(house)
            for run in strings(house, 4):
                if run_state(house, run) is not None:
                    stand = 0
                    for deed in run:
                        stand = floor.step(stand, deed)
                    self.assertEqual(floor.stand_of(run), stand)
                    continue
                at = min(k for k in range(len(run)) if run_state(house, run[:k + 1]) is None)
                with self.assertRaises(CannotDo) as caught:
                    floor.stand_of(run)
                self.assertEqual(caught.exception.deed, run[at])

    def test_stand_of_other_strings(self):
        floor = Floor(MILL)
        for run, deed in (("c", "c"), ("abC", "C"), ("ab a", " "), ("a\n", "\n"), ("aa-", "-"), ("zz", "z")):
            with self.assertRaises(CannotDo) as caught:
                floor.stand_of(run)
            self.assertEqual(caught.exception.deed, deed)
        # d is a deed of the house, but no arrow takes it.
        with self.assertRaises(CannotDo) as caught:
            Floor(GATE).stand_of("abd")
        self.assertEqual(caught.exception.deed, "d")

    def test_long_runs(self):
        self.assertEqual(Floor(MILL).stand_of("ab" * 2001), 1)
        self.assertEqual(Floor(SIXTH).stand_of("a" * 3001), 1)

    def test_by_name(self):
        floor = Floor(house=MILL)
        self.assertEqual(floor.step(deed="a", stand=0), 1)
        self.assertEqual(floor.marks(deed="b", stand=0), ("", "y"))
        self.assertEqual(floor.seen(person=0, stand=1), (1,))
        self.assertIs(floor.is_end(stand=1), True)
        self.assertEqual(floor.first_run(stand=1), "a")
        self.assertEqual(floor.stand_of(run="aa"), 0)
        self.assertEqual(parting_row(other=floor, floor=floor), None)

    def test_house_stays(self):
        for house in STAYING[:20]:
            ahead = copy.deepcopy(attributes(house))
            floor = Floor(house)
            for stand in range(len(floor)):
                for deed in letters(house):
                    self.assertEqual(floor.step(stand, deed), floor.step(stand, deed))
            parting_row(floor, Floor(house))
            self.assertEqual(attributes(house), ahead)
            self.assertEqual(floor, Floor(house))


def like_houses():
    """Houses of one person with the deeds a and b and one log that do much the same."""
    arrows = ((0, "a", 0, ((1, -1),), ("x",)), (0, "b", 0, ((0, 1),), ("",)))
    base = dict(people=1, deeds=(("a", 0), ("b", 0)), start=(0,), places=1, ends=(0,), logs=1, arrows=arrows,
                tests=(), looks=((((0, 1),),),))
    two = dict(
        base, places=2, ends=(0, 1), start=(0, 0), looks=((((0, 0, 0),), ((1, 0, 0),)),),
        arrows=(
            (0, "a", 1, ((0, 1, 0), (5, 0, 1)), ("x",)), (0, "b", 0, ((0, 1, 0), (0, 0, 1)), ("",)),
            (1, "a", 0, ((0, 1, 0), (0, 2, 1)), ("x",)), (1, "b", 1, ((0, 0, 1), (0, 0, 1)), ("",)),
        ),
    )
    return [
        made(base),
        made(two),
        made(base, start=(1,), looks=((((1, -1),),),)),
        made(base, start=(1,)),
        made(base, looks=((((0, 1), (0, 0)),),)),
        made(base, ends=()),
        made(base, arrows=arrows[:1]),
        made(base, arrows=(arrows[0], (0, "b", 0, ((0, 1),), ("x",)))),
        made(base, arrows=(arrows[0], (0, "b", 0, ((1, 0),), ("",)))),
        made(base, tests=((0, "b", (0, 1), 0, 0),)),
        made(base, tests=((0, "a", (0, 1), 0, 0),)),
        made(two, ends=(1,)),
        made(two, ends=(0,)),
        made(two, arrows=two["arrows"][:3] + ((1, "b", 1, ((0, 0, 1), (0, 0, 1)), ("z",)),)),
    ]


class Parting(unittest.TestCase):
    def check(self, house, other, most):
        floor, further = Floor(house), Floor(other)
        found = next((row for row in strings(house, most) if told_apart(house, other, row)), None)
        row = parting_row(floor, further)
        self.assertEqual(row, parting_row(further, floor))
        if found is not None or row is None:
            self.assertEqual(row, found)
        else:
            self.assertGreater(len(row), most)
            self.assertTrue(told_apart(house, other, row))
        self.assertIs(floor == further, row is None)
        self.assertIs(further == floor, row is None)
        self.assertIs(floor != further, row is not None)

    def test_like_houses(self):
        houses = like_houses()
        for house, other in itertools.product(houses, houses):
            with self.subTest(house=str(house), other=str(other)):
                self.check(house, other, 5)

    def test_equal_floors_of_unlike_houses(self):
        first, second, third = like_houses()[:3]
        self.assertEqual(Floor(first), Floor(second))
        self.assertEqual(Floor(first), Floor(third))
        self.assertIsNone(parting_row(Floor(second), Floor(third)))
        self.assertNotEqual(first, second)

    def test_each_kind_of_difference(self):
        houses = [Floor(house) for house in like_houses()]
        rows = [parting_row(houses[0], floor) for floor in houses]
        self.assertEqual(
            rows, [None, None, None, "", "", "", "b", "b", "b", "ab", "aa", "", "a", "ab"]
        )

    def test_random_houses(self):
        groups = {}
        for seed in range(150):
            house = bounded_house(seed)
            groups.setdefault((house.people, house.deeds, house.logs), []).append(house)
        for group in groups.values():
            for house, other in itertools.product(group[:4], group[:4]):
                self.check(house, other, 4)

    def test_changed_houses(self):
        """Houses that differ in one arrow, test, look or end."""
        for seed in range(40):
            house = bounded_house(seed)
            parts = attributes(house)
            others = [made(parts, ends=()), made(parts, ends=(0,)), made(parts, tests=())]
            others += [house.barred(letter) for letter in letters(house)]
            others += [
                made(parts, arrows=parts["arrows"][:at] + (arrow[:4] + (("z",) * house.logs,),)
                     + parts["arrows"][at + 1:]) for at, arrow in enumerate(parts["arrows"])
            ]
            for other in others:
                self.check(house, other, 3)

    def test_long_rows(self):
        # x - y is 2 only behind five turns by a sixth.
        parts = dict(
            people=1, deeds=(("a", 0), ("b", 0)), start=(1, 0), places=1, ends=(0,), logs=0, looks=(((),),), tests=(),
            arrows=((0, "a", 0, ((0, 0, -1), (0, 1, 1)), ()), (0, "b", 0, ((0, 1, 0), (0, 0, 1)), ())),
        )
        one = made(parts, tests=((0, "b", (0, 1, -1), -9, 2),))
        two = made(parts, tests=((0, "b", (0, 1, -1), -9, 1),))
        self.check(one, two, 6)
        self.assertEqual(parting_row(Floor(one), Floor(two)), "aaaaab")

    def test_unlike(self):
        base = Floor(MILL)
        for parts in (
            dict(people=3, looks=MILL_PARTS["looks"] + (((),),)),
            dict(deeds=(("a", 0), ("b", 0))),
            dict(deeds=(("a", 0), ("b", 1), ("c", 0))),
            dict(deeds=(("a", 0), ("c", 1)), arrows=MILL_PARTS["arrows"][:1]),
            dict(logs=1, arrows=()),
        ):
            other = Floor(made(MILL_PARTS, **parts))
            for one, two in ((base, other), (other, base)):
                with self.assertRaises(Unlike):
                    parting_row(one, two)
                self.assertIs(one == two, False)

    def test_logs_that_are_never_written(self):
        for logs in (0, 1, 2):
            for other in (0, 1, 2):
                one, two = [made(attributes(BARE), logs=count) for count in (logs, other)]
                if logs == other:
                    self.assertIsNone(parting_row(Floor(one), Floor(two)))
                else:
                    with self.assertRaises(Unlike):
                        parting_row(Floor(one), Floor(two))
                self.assertIs(Floor(one) == Floor(two), logs == other)

    def test_deeds_that_are_never_done(self):
        one = made(attributes(BARE), deeds=(("a", 0), ("b", 0)))
        self.assertIs(Floor(one) == Floor(BARE), False)
        with self.assertRaises(Unlike):
            parting_row(Floor(one), Floor(BARE))

    def test_equality_with_any_values(self):
        for house in (MILL, BARE):
            floor = Floor(house)
            for thing in any_values() + [house, str(house), 1, (floor,), [floor]]:
                self.assertIs(floor == thing, False)
                self.assertIs(thing == floor, False)
                self.assertIs(floor != thing, True)
            self.assertIs(floor == floor, True)

    def test_renamed_and_back(self):
        for house in RANDOM[:20]:
            other = house.renamed(**{letter: "mnopq"[at] for at, letter in enumerate(letters(house))})
            self.assertIs(Floor(house) == Floor(other), False)
            back = other.renamed(**{"mnopq"[at]: letter for at, letter in enumerate(letters(house))})
            self.assertIs(Floor(house) == Floor(back), True)
