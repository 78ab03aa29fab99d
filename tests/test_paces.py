"""Pace: leads, papers, drifts, and houses with the lead."""

import copy
import itertools
import unittest

from loghouse import paces
from loghouse.errors import NoPace, NoTape
from loghouse.floors import Floor
from loghouse.houses import House
from loghouse.paces import keep_pace, leads, pace, pace_holds, with_lead
from loghouse.tapes import tapes
from loghouse.values import is_bounded, looked_at
from tests import walking
from tests.altering import altered
from tests.listed import check_functions
from tests.papers import gain, lead, pace_right, useful_steps
from tests.samples import BARE, MILL, MILL_PARTS, YARD, any_values, attributes, made
from tests.test_tapes import WRONG_NAMES
from tests.walking import writing
from tests.yards import CUBE, MIDDLE, SIXTH, bounded_house, one_person

# Marks are written by turns: the first deed writes on the first log, the next one on the second.
TURNS = made(
    MILL_PARTS, places=2, ends=(0,), arrows=(
        (0, "a", 1, ((1, -1),), ("x", "")), (0, "b", 0, ((0, 1),), ("", "")),
        (1, "a", 0, ((1, -1),), ("", "y")), (1, "b", 1, ((0, 1),), ("x", "x")),
    ), looks=((((0, 1),), ()), ((), ())),
)
# Only at the place 1, from which no end is reached, the logs run apart.
APART = one_person(
    (0,), (0,),
    (
        (0, "a", 0, ((1, -1),), ("x", "x")), (0, "b", 1, ((0, 1),), ("x", "")),
        (1, "a", 1, ((0, 1),), ("x", "")),
    ), (((0, 1),), ()), logs=2,
)
# There are two ways to the end, one with two marks more on the first log.
FORK = one_person(
    (0,), (2,),
    (
        (0, "a", 1, ((0, 1),), ("x", "")), (0, "b", 2, ((0, 1),), ("", "y")),
        (1, "a", 2, ((0, 1),), ("z", "")), (1, "b", 1, ((0, 1),), ("x", "y")), (2, "c", 2, ((0, 1),), ("", "")),
    ), ((), (), ()), deeds="abc", logs=2,
)
HOUSES = (MILL, BARE, SIXTH, MIDDLE, TURNS, APART, FORK) + tuple(
    house for house in (bounded_house(seed) for seed in range(120)) if len(Floor(house)) < 13
)
FLOORS = tuple(Floor(house) for house in HOUSES)
FLOOR = FLOORS[0]


def names(floor):
    return tapes(floor) + tuple(f"{name}-x" for name in tapes(floor) if not name.startswith("sight"))


def all_leads(floor, tape, other):
    """The pairs of a useful stand and a lead behind runs to it; None if there are endlessly many."""
    if not floor.useful:
        return set()
    house = floor.house
    steps = [
        (stand, behind, gain(house, tape, other, floor.first_run(stand), deed))
        for stand, deed, behind in useful_steps(floor)
    ]
    first = lead(house, tape, other, "")
    met = {(0, first)}
    queue = [(0, first)]
    for stand, here in queue:
        for source, behind, more in steps:
            if source == stand and (behind, here + more) not in met:
                # A run without rings has fewer deeds than there are stands.
                if abs(here + more - first) >= len(floor):
                    return None
                met.add((behind, here + more))
                queue.append((behind, here + more))
    return met


def least(floor, tape, other):
    met = all_leads(floor, tape, other)
    if met is None:
        return None
    return tuple(
        (stand, min(here for at, here in met if at == stand), max(here for at, here in met if at == stand))
        for stand in floor.useful
    )


class Listed(unittest.TestCase):
    def test_functions(self):
        check_functions(self, paces, {
            "pace": "floor tape other", "pace_holds": "floor tape other thing", "keep_pace": "floor tape other",
            "leads": "floor tape other", "with_lead": "house tape other",
        })


class Pace(unittest.TestCase):
    def check(self, floor, tape, other):
        bounds = least(floor, tape, other)
        paper = pace(floor, tape, other)
        self.assertTrue(pace_right(floor, tape, other, paper), paper)
        self.assertIs(pace_holds(floor, tape, other, paper), True)
        self.assertEqual(paper[0], "drifts" if bounds is None else "pace")
        self.assertIs(keep_pace(floor, tape, other), bounds is not None)
        if bounds is not None:
            self.assertEqual(leads(floor, tape, other), bounds)
            return
        with self.assertRaises(NoPace) as caught:
            leads(floor, tape, other)
        self.assertEqual(caught.exception.paper[0], "drifts")
        self.assertTrue(pace_right(floor, tape, other, caught.exception.paper))

    def test_all(self):
        for floor in FLOORS:
            for tape, other in itertools.product(names(floor), repeat=2):
                with self.subTest(house=str(floor.house), tape=tape, other=other):
                    self.check(floor, tape, other)

    def test_examples(self):
        self.assertEqual(leads(FLOOR, "deeds", "log1"), ((0, 0, 0), (1, 0, 0)))
        self.assertEqual(leads(FLOOR, "log1", "deeds"), ((0, 0, 0), (1, 0, 0)))
        self.assertEqual(pace(FLOOR, "log0", "log1")[0], "drifts")
        self.assertEqual(leads(FLOOR, "log0", "sight0"), ((0, -1, -1), (1, -1, -1)))
        self.assertEqual(leads(FLOOR, "sight0", "log0"), ((0, 1, 1), (1, 1, 1)))
        self.assertEqual(leads(FLOOR, "log1-y", "log0"), ((0, 0, 0), (1, 0, 0)))

    def test_bounds_that_are_not_one(self):
        floor = Floor(FORK)
        self.assertEqual(leads(floor, "log0", "log1"), ((0, 0, 0), (1, 1, 1), (2, -1, 2)))
        self.assertEqual(leads(floor, "log1", "log0"), ((0, 0, 0), (1, -1, -1), (2, -2, 1)))

    def test_leads_by_turns(self):
        self.assertEqual(leads(Floor(TURNS), "log0", "log1")[0], (0, 0, 0))
        self.assertEqual({high for _, low, high in leads(Floor(TURNS), "log0", "log1")}, {0, 1})

    def test_stands_that_are_not_useful(self):
        floor = Floor(APART)
        self.assertEqual(len(floor), 3)
        self.assertEqual(leads(floor, "log0", "log1"), ((0, 0, 0), (1, 0, 0)))

    def test_no_useful_stands(self):
        for tape, other in itertools.product(tapes(Floor(BARE)), repeat=2):
            self.assertEqual(pace(Floor(BARE), tape, other), ("pace", ()))
            self.assertEqual(leads(Floor(BARE), tape, other), ())
        floor = Floor(made(MILL_PARTS, ends=()))
        self.assertEqual(pace(floor, "log0", "log1"), ("pace", ()))
        self.assertIs(keep_pace(floor, "log0", "log1"), True)

    def test_one_tape_twice(self):
        for floor in FLOORS[:20]:
            for tape in names(floor):
                self.assertEqual(leads(floor, tape, tape), tuple((stand, 0, 0) for stand in floor.useful))

    def test_leads_behind_runs(self):
        for floor in FLOORS[:12]:
            house = floor.house
            for tape, other in itertools.product(tapes(floor), repeat=2):
                if not keep_pace(floor, tape, other):
                    continue
                bounds = {stand: (low, high) for stand, low, high in leads(floor, tape, other)}
                for run in walking.runs(house, 4):
                    if floor.stand_of(run) in bounds:
                        low, high = bounds[floor.stand_of(run)]
                        here = len(writing(house, tape, run)) - len(writing(house, other, run))
                        self.assertTrue(low <= here <= high)

    def test_sixty_stands(self):
        floor = Floor(CUBE)
        self.check(floor, "deeds", "sight0")
        self.check(floor, "deeds", "log0")
        self.check(floor, "sight0", "log0")

    def test_long_bounds(self):
        # The first deeds write on one log alone, sixteen of them.
        house = one_person(
            (1, 2, 3), (1,),
            (
                (0, "a", 0, ((0, 0, 1, 0), (0, 0, 0, 1), (0, 1, 0, 0)), ("x", "")),
                (0, "b", 1, ((0, 1, 0, 0), (0, 0, 1, 0), (0, 0, 0, 1)), ("", "")),
            ), (((0, 1, 0, 0),), ()), logs=2,
        )
        self.check(Floor(house), "log0", "log1")
        self.check(Floor(house), "log1", "deeds")

    def test_by_name(self):
        self.assertEqual(leads(other="log1", tape="deeds", floor=FLOOR), ((0, 0, 0), (1, 0, 0)))
        self.assertEqual(pace(other="log1", tape="deeds", floor=FLOOR)[0], "pace")
        self.assertIs(keep_pace(other="log1", tape="log0", floor=FLOOR), False)
        self.assertIs(
            pace_holds(thing=("drifts", "", "b"), other="log1", tape="log0", floor=FLOOR), True
        )

    def test_same_again(self):
        ahead = copy.deepcopy(attributes(TURNS))
        for floor in FLOORS[:10]:
            for tape, other in itertools.product(tapes(floor), repeat=2):
                self.assertEqual(pace(floor, tape, other), pace(floor, tape, other))
        self.assertEqual(attributes(TURNS), ahead)


class Holds(unittest.TestCase):
    def right(self, floor, tape, other, paper):
        self.assertTrue(pace_right(floor, tape, other, paper), paper)
        self.assertIs(pace_holds(floor, tape, other, paper), True, paper)

    def wrong(self, floor, tape, other, paper):
        self.assertFalse(pace_right(floor, tape, other, paper), paper)
        self.assertIs(pace_holds(floor, tape, other, paper), False, paper)

    def test_wider_and_narrower_bounds(self):
        self.right(FLOOR, "deeds", "log1", ("pace", ((0, 0, 0), (1, 0, 0))))
        self.right(FLOOR, "deeds", "log1", ("pace", ((0, -3, 5), (1, -3, 5))))
        self.wrong(FLOOR, "deeds", "log1", ("pace", ((0, -3, 5), (1, -3, 4))))
        self.wrong(FLOOR, "deeds", "log1", ("pace", ((0, -3, 5), (1, -2, 5))))
        self.wrong(FLOOR, "deeds", "log1", ("pace", ((0, 1, 1), (1, 1, 1))))
        self.wrong(FLOOR, "deeds", "log1", ("pace", ((0, -1, -1), (1, -1, -1))))
        self.wrong(FLOOR, "deeds", "log1", ("pace", ((0, 0, -1), (1, 0, -1))))
        fork = Floor(FORK)
        self.right(fork, "log0", "log1", ("pace", ((0, 0, 0), (1, 1, 1), (2, -1, 2))))
        self.right(fork, "log0", "log1", ("pace", ((0, 0, 0), (1, 1, 1), (2, -7, 9))))
        self.right(fork, "log0", "log1", ("pace", ((0, 0, 1), (1, -4, 2), (2, -4, 10 ** 39))))
        self.wrong(fork, "log0", "log1", ("pace", ((0, 0, 0), (1, 1, 1), (2, -1, 1))))
        self.wrong(fork, "log0", "log1", ("pace", ((0, 0, 0), (1, 1, 1), (2, 0, 2))))
        self.wrong(fork, "log0", "log1", ("pace", ((0, 0, 0), (1, 1, 2), (2, -1, 2))))
        self.wrong(fork, "log0", "log1", ("pace", ((0, 0, 1), (1, 1, 1), (2, -1, 2))))

    def test_stands_left_out_and_put_in(self):
        floor = Floor(APART)
        self.right(floor, "log0", "log1", ("pace", ((0, 0, 0), (1, 0, 0))))
        self.wrong(floor, "log0", "log1", ("pace", ((0, 0, 0),)))
        self.wrong(floor, "log0", "log1", ("pace", ((1, 0, 0),)))
        self.wrong(floor, "log0", "log1", ("pace", ()))
        self.wrong(floor, "log0", "log1", ("pace", ((0, 0, 0), (1, 0, 0), (2, 0, 9))))
        self.wrong(floor, "log0", "log1", ("pace", ((0, 0, 0), (0, 0, 0), (1, 0, 0))))
        self.wrong(floor, "log0", "log1", ("pace", ((0, 0, 0), (0, 0, 1), (1, 0, 0))))
        self.wrong(floor, "log0", "log1", ("pace", ((1, 0, 0), (0, 0, 0))))
        self.wrong(floor, "log0", "log1", ("pace", ((0, 0, 0), (1, 0, 0), (3, 0, 0))))
        self.wrong(floor, "log0", "log1", ("pace", ((-1, 0, 0), (0, 0, 0), (1, 0, 0))))

    def test_no_useful_stands(self):
        floor = Floor(made(MILL_PARTS, ends=()))
        self.right(floor, "log0", "log1", ("pace", ()))
        self.wrong(floor, "log0", "log1", ("pace", ((0, 0, 0),)))
        self.wrong(floor, "log0", "log1", ("pace", ((0, 0, 0), (1, 0, 0))))
        self.wrong(floor, "log0", "log1", ("drifts", "", "b"))

    def test_drifts(self):
        for run, loop in (("", "b"), ("a", "b"), ("ab", "aab"), ("aba", "bb"), ("a" * 100, "ab" * 100), ("", "aab")):
            self.right(FLOOR, "log0", "log1", ("drifts", run, loop))
            self.right(FLOOR, "log1", "log0", ("drifts", run, loop))
        for run, loop in (("", ""), ("", "a"), ("", "aa"), ("a", "aabaab"[:2]), ("", "ba"), ("c", "b"), ("", "bc")):
            self.wrong(FLOOR, "log0", "log1", ("drifts", run, loop))

    def test_loops_at_stands_that_are_not_useful(self):
        floor = Floor(APART)
        self.wrong(floor, "log0", "log1", ("drifts", "b", "a"))
        self.wrong(floor, "log0", "log1", ("drifts", "ab", "aa"))
        self.wrong(floor, "log0", "log1", ("drifts", "", "aa"))

    def test_runs_that_cannot_be_done(self):
        held = made(MILL_PARTS, tests=((0, "b", (0, 1), 1, 1),))
        floor = Floor(held)
        self.right(floor, "log0", "log1", ("drifts", "a", "b"))
        self.right(floor, "log0", "log1", ("drifts", "", "aba"))
        self.wrong(floor, "log0", "log1", ("drifts", "", "b"))
        self.wrong(floor, "log0", "log1", ("drifts", "b", "aba"))
        self.wrong(floor, "log0", "log1", ("drifts", "aab", "aba"))
        self.wrong(floor, "log0", "log1", ("drifts", "a", "ba"))

    def test_no_gain_in_all(self):
        floor = Floor(TURNS)
        self.wrong(floor, "log0", "log1", ("drifts", "", "aaaa"))
        self.wrong(floor, "log0", "log1", ("drifts", "a", "b"))
        self.right(floor, "deeds", "log1", ("drifts", "", "b"))
        self.right(floor, "deeds", "log1", ("drifts", "", "aaaa"))

    def test_altered_papers(self):
        for floor in FLOORS[:40]:
            for tape, other in itertools.product(tapes(floor)[:3] + ("deeds-x",), repeat=2):
                paper = pace(floor, tape, other)
                if len(str(paper)) > 60:
                    continue
                for thing in altered(paper):
                    self.assertIs(
                        pace_holds(floor, tape, other, thing), pace_right(floor, tape, other, thing), thing
                    )

    def test_papers_of_other_tapes(self):
        for floor in FLOORS[:25]:
            pairs = list(itertools.product(tapes(floor), repeat=2))
            papers = [pace(floor, *pair) for pair in pairs]
            for pair in pairs:
                for paper in papers:
                    self.assertIs(pace_holds(floor, *pair, paper), pace_right(floor, *pair, paper), (pair, paper))

    def test_any_values(self):
        for thing in any_values() + [FLOOR, "pace", "drifts", ("pace",), ("drifts",), ("drifts", ""), ("pace", (), ()),
                                     ("pace", None), ("drifts", None, "b"), ("drifts", "", None), (FLOOR, ()),
                                     ("drifts", "", ["b"]), ("drifts", "", ("b",)), ["pace", ()]]:
            for tape, other in (("log0", "log1"), ("deeds", "log1")):
                self.assertIs(pace_holds(FLOOR, tape, other, thing), False, repr(thing)[:80])
                self.assertIs(pace_holds(FLOOR, tape, other, ("pace", thing)), False)
                for paper in (("drifts", thing, "b"), ("drifts", "", thing)):
                    self.assertIs(pace_holds(FLOOR, tape, other, paper), pace_right(FLOOR, tape, other, paper))

    def test_words_exchanged(self):
        self.assertIs(pace_holds(FLOOR, "log0", "log1", ("pace", "", "b")), False)
        self.assertIs(pace_holds(FLOOR, "deeds", "log1", ("drifts", ((0, 0, 0), (1, 0, 0)))), False)
        self.assertIs(pace_holds(FLOOR, "deeds", "log1", ["pace", ((0, 0, 0), (1, 0, 0))]), False)

    def test_thing_stays(self):
        thing = ("pace", [[0, 0, 0], {"a": [1]}])
        kept = copy.deepcopy(thing)
        pace_holds(FLOOR, "log0", "log1", thing)
        self.assertEqual(thing, kept)


class Refused(unittest.TestCase):
    CALLS = (
        pace, keep_pace, leads,
        lambda floor, tape, other: pace_holds(floor, tape, other, ("drifts", "", "b")),
    )

    def test_no_tape(self):
        for thing in WRONG_NAMES + tuple(any_values()):
            for call in self.CALLS:
                for pair in ((thing, "log1"), ("log1", thing), (thing, thing), (thing, 7), (thing, "log7")):
                    with self.assertRaises(NoTape) as caught:
                        call(FLOOR, *pair)
                    self.assertIs(caught.exception.thing, thing)

    def test_no_pace_comes_behind(self):
        # Neither pace nor pace_holds nor keep_pace raise it.
        self.assertIs(keep_pace(FLOOR, "log0", "log1"), False)
        self.assertEqual(pace(FLOOR, "log0", "log1")[0], "drifts")
        with self.assertRaises(NoPace):
            leads(FLOOR, "log0", "log1")
        with self.assertRaises(NoTape):
            leads(FLOOR, "log0", "log2")


class WithLead(unittest.TestCase):
    def test_mill(self):
        house = with_lead(MILL, "log0", "log1")
        self.assertEqual(house, House(
            2, (("a", 0), ("b", 1)), (0, 0), 1, (0,), 2,
            ((0, "a", 0, ((1, -1, 0), (0, 0, 1)), ("x", "x")), (0, "b", 0, ((0, 1, 0), (-1, 0, 1)), ("", "y"))),
            (), ((((0, 1, 0), (0, 0, 1)),), ((),)),
        ))
        self.assertEqual(with_lead(MILL, "log1", "log0").arrows[1][3], ((0, 1, 0), (1, 0, 1)))
        self.assertEqual(with_lead(MILL, "deeds", "log0").arrows[1][3], ((0, 1, 0), (1, 0, 1)))
        self.assertEqual(with_lead(MILL, "deeds", "log1").arrows[1][3], ((0, 1, 0), (0, 0, 1)))

    def test_tests_and_looks(self):
        house = with_lead(YARD, "deeds", "log0")
        self.assertEqual(house.tests, (
            (0, "z", (0, 1, 1, 0), -10, 10), (1, "c", (1, 0, 1, 0), -3, -3), (1, "c", (1, 0, 2, 0), 0, 900),
        ))
        self.assertEqual(house.looks, (
            (((0, 1, 0, 0), (4, 0, -1, 0), (0, 0, 0, 1)), ((0, 0, 0, 1),)), ((), ((0, 1, -1, 0),)),
        ))
        self.assertEqual(house.start, (-7, 12, 0))
        self.assertEqual([arrow[3][2][0] for arrow in house.arrows], [0, 1, 0, 0])
        self.assertEqual({arrow[3][2][1:] for arrow in house.arrows}, {(0, 0, 1)})
        for part in ("people", "deeds", "places", "ends", "logs"):
            self.assertEqual(getattr(house, part), getattr(YARD, part))

    def test_lead_is_seen(self):
        for house in HOUSES + (YARD,):
            if len(house.start) > 2:
                continue
            names_here = ["deeds"] + [f"log{at}" for at in range(house.logs)]
            for tape, other in itertools.permutations(names_here, 2):
                further = with_lead(house, tape, other)
                for run in walking.runs(house, 4):
                    self.assertEqual(
                        walking.sight(further, run, 0), walking.sight(house, run, 0) + (lead(house, tape, other, run),)
                    )
                    for person in range(1, house.people):
                        self.assertEqual(walking.sight(further, run, person), walking.sight(house, run, person))
                self.assertEqual(list(walking.runs(further, 3)), list(walking.runs(house, 3)))

    def test_pace_and_bounds(self):
        """Two tapes of a house all whose stands are useful keep pace if the house with the lead stays within bounds."""
        for house in HOUSES:
            floor = Floor(house)
            if house.tests or len(house.start) > 2 or len(floor.useful) < len(floor):
                continue
            names_here = ["deeds"] + [f"log{at}" for at in range(house.logs)]
            for tape, other in itertools.permutations(names_here, 2):
                self.assertIs(is_bounded(with_lead(house, tape, other)), keep_pace(floor, tape, other))

    def test_looked_at(self):
        self.assertEqual(looked_at(with_lead(MILL, "deeds", "log0"), 0), ((0, 1, 0), (0, 0, 1)))

    def test_no_tape(self):
        others = ("sight0", "sight1", "log0-x", "deeds-a", "log2", "deeds-", "log1-a")
        things = WRONG_NAMES + tuple(any_values()) + others
        for thing in things:
            for pair in ((thing, "log1"), ("log1", thing), (thing, thing), (thing, None), (thing, "sight0")):
                with self.assertRaises(NoTape) as caught:
                    with_lead(MILL, *pair)
                self.assertIs(caught.exception.thing, thing)

    def test_both_the_same(self):
        for name in ("deeds", "log0", "log1"):
            with self.assertRaises(NoTape) as caught:
                with_lead(MILL, name, name)
            self.assertEqual(caught.exception.thing, name)

    def test_logs_of_the_house(self):
        with self.assertRaises(NoTape) as caught:
            with_lead(YARD, "deeds", "log1")
        self.assertEqual(caught.exception.thing, "log1")
        with self.assertRaises(NoTape) as caught:
            with_lead(BARE, "log0", "log0")
        self.assertEqual(caught.exception.thing, "log0")

    def test_by_name_and_house_stays(self):
        ahead = copy.deepcopy(attributes(YARD))
        self.assertEqual(with_lead(other="log0", tape="deeds", house=YARD), with_lead(YARD, "deeds", "log0"))
        self.assertEqual(attributes(YARD), ahead)
