"""Whether rows of tapes tell tapes: papers, tables, fewest deeds, least tellers."""

import copy
import itertools
import unittest

from loghouse import telling
from loghouse.errors import NoPace, NoTape, NotTold
from loghouse.floors import Floor
from loghouse.paces import keep_pace
from loghouse.tapes import tapes
from loghouse.telling import does_tell, fewest_deeds, least_table, least_tellers, tells, tells_holds
from tests import tellings, walking
from tests.altering import altered
from tests.listed import check_functions
from tests.papers import pace_right
from tests.samples import BARE, MILL, MILL_PARTS, any_values, attributes, made
from tests.tellings import tells_right
from tests.test_paces import APART, FORK, TURNS
from tests.test_tapes import WRONG_NAMES
from tests.yards import AT_ONCE, CUBE, FIRST_DRIFT, HELD_BACK, LONGER_DRIFT, MIDDLE, NEVER, QUEUE, UNLIKE_DRIFT
from tests.yards import bounded_house, one_person, plain_house

NAMED = (
    MILL, BARE, MIDDLE, TURNS, APART, FORK, QUEUE, UNLIKE_DRIFT, LONGER_DRIFT, FIRST_DRIFT, HELD_BACK, AT_ONCE, NEVER,
)
RANDOM = tuple(
    house for house in (bounded_house(seed, people=2, logs=2) for seed in range(90))
    if 2 <= len(Floor(house).useful) < 8
)
FLOOR = Floor(MILL)
QUEUED = Floor(QUEUE)


def names(floor):
    return tapes(floor) + ("deeds-a", "log0-x")[:1 + min(floor.house.logs, 1)]


def rows(floor, most=40):
    """Rows of no, one, two and three tapes that keep pace."""
    found = [()] + [(tape,) for tape in names(floor)]
    pairs = [row for row in itertools.permutations(names(floor), 2) if keep_pace(floor, *row)]
    threes = [
        row for row in itertools.permutations(names(floor), 3)
        if keep_pace(floor, *row[:2]) and keep_pace(floor, row[0], row[2])
    ]
    return found + pairs[::1 + len(pairs) // most] + threes[::1 + len(threes) // most * 4]


def cases(floors, most=40):
    for floor in floors:
        for row in rows(floor, most):
            for tape in names(floor):
                yield floor, row, tape


def fewest_of(floor, row, tape, most):
    """The least sum of two days alike on the row and not on the tape, each of at most so many deeds."""
    groups = {}
    for day in walking.days(floor.house, most):
        key = tuple(walking.writing(floor.house, name, day) for name in row)
        groups.setdefault(key, {}).setdefault(walking.writing(floor.house, tape, day), len(day))
    sums = [sum(sorted(group.values())[:2]) for group in groups.values() if len(group) > 1]
    return min(sums, default=None)


class Listed(unittest.TestCase):
    def test_functions(self):
        check_functions(self, telling, {
            "tells": "floor row tape", "tells_holds": "floor row tape thing", "does_tell": "floor row tape",
            "least_table": "floor row tape", "fewest_deeds": "floor row tape", "least_tellers": "floor tape",
        })


class Tells(unittest.TestCase):
    def check(self, floor, row, tape):
        table = tellings.least_table(floor, row, tape)
        paper = tells(floor, row, tape)
        self.assertTrue(tells_right(floor, row, tape, paper), paper)
        self.assertIs(tells_holds(floor, row, tape, paper), True)
        self.assertIs(does_tell(floor, row, tape), table is not None)
        self.assertEqual(paper[0], "parts" if table is None else "tells")
        if table is not None:
            self.assertEqual(least_table(floor, row, tape), table)
            return
        with self.assertRaises(NotTold) as caught:
            least_table(floor, row, tape)
        self.assertEqual(caught.exception.paper[0], "parts")
        self.assertTrue(tells_right(floor, row, tape, caught.exception.paper))

    def test_named_houses(self):
        for floor, row, tape in cases(map(Floor, NAMED)):
            with self.subTest(house=str(floor.house), row=row, tape=tape):
                self.check(floor, row, tape)

    def test_random_houses(self):
        for floor, row, tape in cases(map(Floor, RANDOM), 10):
            with self.subTest(house=str(floor.house), row=row, tape=tape):
                self.check(floor, row, tape)

    def test_days(self):
        """No two days that are alike on a row that tells differ."""
        for floor in list(map(Floor, NAMED + RANDOM[:6])):
            for row in rows(floor, 4):
                for tape in names(floor)[:4]:
                    if does_tell(floor, row, tape):
                        self.assertIsNone(fewest_of(floor, row, tape, 4), (str(floor.house), row, tape))

    def test_examples(self):
        self.assertEqual(least_table(FLOOR, ("log1",), "log0"), ((0, 0, (), (), ()), (1, 1, (), (), ())))
        self.assertEqual(tells(FLOOR, ("log0",), "log1")[0], "parts")
        self.assertIs(does_tell(FLOOR, ("log0",), "log1"), False)
        self.assertIs(does_tell(FLOOR, ("log1",), "log0"), True)

    def test_empty_row(self):
        self.assertEqual(tells(FLOOR, (), "log0")[0], "parts")
        # One day alone; and days on which nothing is written.
        single = Floor(made(MILL_PARTS, places=2, ends=(1,), arrows=((0, "a", 1, ((0, 1),), ("x", "y")),),
                            looks=((((0, 1),), ()), ((), ()))))
        for tape in tapes(single):
            self.assertIs(does_tell(single, (), tape), True)
        self.assertEqual(least_table(single, (), "log0"), (
            (0, 0, (), (), ()), (0, 1, (), (), ("x",)), (1, 0, (), ("x",), ()), (1, 1, (), (), ()),
        ))
        self.assertIs(does_tell(Floor(HELD_BACK), (), "deeds-abcd"), True)
        self.assertIs(does_tell(Floor(HELD_BACK), (), "deeds-abc"), False)

    def test_days_of_unlike_lengths_alone(self):
        floor = Floor(one_person((0,), (0,), ((0, "a", 0, ((0, 1),), ("x", "")),), ((),), logs=2))
        self.assertEqual(tells(floor, ("log1",), "log0")[0], "parts")
        self.assertEqual(fewest_deeds(floor, ("log1",), "log0"), 1)
        self.assertIs(does_tell(floor, ("log0",), "deeds"), True)

    def test_told_tape_in_the_row(self):
        for floor in map(Floor, NAMED):
            for row in rows(floor):
                for tape in row:
                    self.assertIs(does_tell(floor, row, tape), True)

    def test_told_tape_that_keeps_no_pace(self):
        self.assertIs(keep_pace(FLOOR, "log1", "log0"), False)
        self.assertIs(does_tell(FLOOR, ("log1", "deeds"), "log0"), True)
        self.assertIs(keep_pace(FLOOR, "log0", "deeds-b"), True)
        self.assertIs(does_tell(FLOOR, ("log0", "deeds-b"), "log1"), False)

    def test_no_days(self):
        for floor in (Floor(BARE), Floor(made(MILL_PARTS, ends=()))):
            for row in ((), ("deeds",), ("sight0",), ("sight0", "deeds")):
                self.assertEqual(tells(floor, row, "deeds"), ("tells", ()))
                self.assertEqual(least_table(floor, row, "deeds"), ())
                self.assertIs(does_tell(floor, row, "deeds"), True)
                self.assertIsNone(fewest_deeds(floor, row, "deeds"))

    def test_rests_that_grow(self):
        table = least_table(QUEUED, ("log1", "log0"), "deeds")
        longest = max(len(part) for item in table for pair in item[2] for part in pair)
        self.assertEqual(longest, 2)
        self.assertEqual(table, tellings.least_table(QUEUED, ("log1", "log0"), "deeds"))
        table = least_table(QUEUED, ("log1",), "log0")
        self.assertEqual(max(len(part) for item in table for part in item[3:]), 2)

    def test_tables_grow_with_blots(self):
        for row in (("log0", "log1"), ("log0", "log1", "deeds"), ("log1-x", "log0-x"), ("deeds-ab", "log1-xy")):
            if not all(keep_pace(QUEUED, row[0], other) for other in row[1:]):
                continue
            for tape in names(QUEUED):
                self.check(QUEUED, row, tape)

    def test_order_of_the_row(self):
        """The answer hangs on the set of tapes alone."""
        for floor in map(Floor, NAMED + RANDOM[:6]):
            for row in itertools.combinations(names(floor), 2):
                if keep_pace(floor, *row):
                    for tape in names(floor):
                        self.assertIs(does_tell(floor, row, tape), does_tell(floor, row[::-1], tape))

    def test_sixty_stands(self):
        floor = Floor(CUBE)
        for row, tape in ((("deeds",), "sight0"), (("sight0",), "log0"), (("sight0", "deeds"), "log0")):
            self.assertEqual(len(least_table(floor, row, tape)), 60)
        self.assertTrue(tells_right(floor, ("log0",), "sight0", tells(floor, ("log0",), "sight0")))
        self.assertTrue(tells_right(floor, (), "sight0", tells(floor, (), "sight0")))

    def test_by_name(self):
        self.assertEqual(tells(tape="log0", row=("log1",), floor=FLOOR)[0], "tells")
        self.assertIs(does_tell(tape="log0", row=("log1",), floor=FLOOR), True)
        self.assertEqual(len(least_table(tape="log0", row=("log1",), floor=FLOOR)), 2)
        self.assertEqual(fewest_deeds(tape="log1", row=("log0",), floor=FLOOR), 1)
        self.assertEqual(least_tellers(tape="deeds", floor=FLOOR), (("log1",),))
        self.assertIs(
            tells_holds(thing=("parts", "b", ""), tape="log1", row=("log0",), floor=FLOOR), True
        )

    def test_same_again(self):
        ahead = copy.deepcopy(attributes(QUEUE))
        for row in (("log1", "log0"), ("log0",), ()):
            for tape in tapes(QUEUED):
                self.assertEqual(tells(QUEUED, row, tape), tells(QUEUED, row, tape))
        self.assertEqual(attributes(QUEUE), ahead)


class FewestDeeds(unittest.TestCase):
    def test_by_days(self):
        for floor in map(Floor, NAMED + RANDOM[:12]):
            for row in rows(floor, 4):
                for tape in names(floor)[:4]:
                    found = fewest_deeds(floor, row, tape)
                    self.assertIs(found is None, does_tell(floor, row, tape))
                    shown = fewest_of(floor, row, tape, 4)
                    # Two days of which the longer one has at most four deeds are all tried.
                    if shown is not None:
                        self.assertLessEqual(found, shown)
                    if found is not None and found <= 4:
                        self.assertEqual(found, shown)

    def test_examples(self):
        self.assertEqual(fewest_deeds(FLOOR, ("log0",), "log1"), 1)
        self.assertIsNone(fewest_deeds(FLOOR, ("log1",), "log0"))
        self.assertEqual(fewest_deeds(QUEUED, (), "log0"), 5)
        self.assertEqual(fewest_deeds(QUEUED, ("log0-x",), "log1"), 5)
        self.assertEqual(fewest_deeds(QUEUED, ("deeds-a",), "log1"), 10)
        self.assertIsNone(fewest_deeds(QUEUED, ("log0",), "deeds"))

    def test_unlike_marks_and_unlike_lengths(self):
        for house, deeds in ((NEVER, None), (UNLIKE_DRIFT, None), (LONGER_DRIFT, None)):
            self.assertEqual(fewest_deeds(Floor(house), ("log0",), "log1"), deeds)
            floor = Floor(house)
            self.assertEqual(fewest_deeds(floor, ("log0-pq",), "log1"), fewest_of(floor, ("log0-pq",), "log1", 5))
            self.assertIsNotNone(fewest_deeds(floor, ("log0-pq",), "log1"))

    def test_mark_that_is_unlike_only_later(self):
        # The logs are alike but for one mark that stands late, and the days have unlike lengths.
        same = ((0, 1),)
        floor = Floor(one_person(
            (0,), (2,),
            (
                (0, "a", 0, same, ("x", "x")), (0, "b", 1, same, ("", "")),
                (1, "a", 2, same, ("x", "z")), (1, "b", 2, same, ("x", "x")), (1, "c", 0, same, ("", "")),
            ), ((), (), ()), deeds="abc", logs=2,
        ))
        self.assertEqual(fewest_deeds(floor, ("log0",), "log1"), 4)
        self.assertEqual(fewest_deeds(floor, ("log0",), "deeds"), 4)
        self.assertEqual(fewest_deeds(floor, ("log1",), "log0-y"), fewest_of(floor, ("log1",), "log0-y", 5))

    def test_leads_grow_before_the_unlike_mark(self):
        # The first run writes its marks on the told log ahead of the second one.
        same = ((0, 1),)
        floor = Floor(one_person(
            (0,), (2,),
            (
                (0, "a", 1, same, ("m", "x")), (0, "b", 0, same, ("m", "")), (0, "c", 2, same, ("", "x")),
                (1, "a", 2, same, ("m", "y")), (2, "c", 2, same, ("", "z")),
            ), ((), (), ()), deeds="abc", logs=2,
        ))
        for row in (("log0",), (), ("deeds-b",), ("log0", "deeds-c")):
            if all(keep_pace(floor, row[0], other) for other in row[1:]):
                for tape in ("log1", "deeds", "log1-x", "log1-z"):
                    found, shown = fewest_deeds(floor, row, tape), fewest_of(floor, row, tape, 6)
                    self.assertEqual(found, shown, (row, tape))


    def test_runs_that_write_late(self):
        # The first log aligns both runs; what is unlike stands behind what one of them has written already.
        for marks, others, deeds in (
            (("x", "y", ""), ("", "x", "z"), 8), (("x", "y", ""), ("", "x", "y"), None),
            (("", "x", "z"), ("x", "y", ""), 8), (("x", "x", ""), ("", "x", "x"), None),
            (("x", "y", "z", "", ""), ("", "", "x", "y", "z"), None),
            (("x", "y", "z", "", ""), ("", "", "x", "y", "w"), 12),
            (("x", "y", "z", "", ""), ("", "", "x", "w", "z"), 12),
            (("x", "y", "z", "", ""), ("", "", "w", "y", "z"), 12),
            (("", "", "w", "y", "z"), ("x", "y", "z", "", ""), 12),
            (("x", "", "y"), ("", "x", ""), 8),
        ):
            floor = Floor(self.twins(marks, others))
            self.assertEqual(fewest_deeds(floor, ("log0",), "log1"), deeds, (marks, others))

    @staticmethod
    def twins(marks, others):
        """Two days of as many deeds, each of which writes m on the first log, and one of these on the second one."""
        count = len(marks)
        one, two = ("a", marks), ("b", others)
        # The register x tells how many deeds are done, y which day it is: all deeds but the first are at the place 1.
        deeds = "abcde"[:count]
        arrows, tests = [], []
        for choice, (deed, row) in enumerate((one, two)):
            arrows.append((0, deed, 1 + choice, ((1, 0),), ("m", row[0])))
            for at in range(1, count):
                arrows.append((1 + choice, deeds[at], 1 + choice, ((at + 1, 0),), ("m", row[at])))
                tests.append((1 + choice, deeds[at], (0, 1), at, at))
            arrows.append((1 + choice, deeds[0], 0, ((9, 0),), ("", "")))
            tests.append((1 + choice, deeds[0], (0, 1), count, count))
        for deed in "ab":
            tests.append((0, deed, (0, 1), 0, 0))
        return one_person(
            (0,), (0,), tuple(sorted(arrows)), ((), (), ()), deeds=deeds, logs=2, tests=tuple(sorted(tests)),
        )

    def test_any_plain_houses(self):
        for seed in range(60):
            floor = Floor(plain_house(seed))
            for row in (("log0",), ("deeds-ab",)):
                found, shown = fewest_deeds(floor, row, "log1"), fewest_of(floor, row, "log1", 4)
                if shown is not None:
                    self.assertLessEqual(found, shown)
                if found is not None and found <= 4:
                    self.assertEqual(found, shown)


class LeastTellers(unittest.TestCase):
    def expected(self, floor, tape):
        house = floor.house
        names_here = [name for name in walking.tape_names(house) if name not in ("deeds", tape)]
        tellers = []
        for count in range(len(names_here) + 1):
            for row in itertools.combinations(sorted(names_here), count):
                if all(keep_pace(floor, one, two) for one, two in itertools.combinations(row, 2)):
                    if does_tell(floor, row, tape):
                        tellers.append(row)
        return tuple(sorted(
            row for row in tellers if not any(set(other) < set(row) for other in tellers)
        ))

    def test_all(self):
        for floor in map(Floor, NAMED + RANDOM):
            for tape in names(floor) + ("deeds-ab",):
                found = least_tellers(floor, tape)
                self.assertEqual(found, self.expected(floor, tape), (str(floor.house), tape))
                self.assertIs(type(found), tuple)

    def test_examples(self):
        self.assertEqual(least_tellers(FLOOR, "deeds"), (("log1",),))
        self.assertEqual(least_tellers(FLOOR, "log0"), (("log1",), ("sight0",)))
        self.assertEqual(least_tellers(FLOOR, "log1"), ())
        self.assertEqual(least_tellers(FLOOR, "sight0"), (("log0",), ("log1",)))

    def test_empty_row(self):
        self.assertEqual(least_tellers(Floor(BARE), "deeds"), ((),))
        self.assertEqual(least_tellers(Floor(BARE), "sight0"), ((),))
        self.assertEqual(least_tellers(FLOOR, "log0-x"), ((),))

    def test_tape_itself_is_in_none(self):
        for floor in map(Floor, NAMED):
            for tape in tapes(floor):
                self.assertFalse(any(tape in row for row in least_tellers(floor, tape)))
        # What is blotted is another tape.
        self.assertIn(("log0",), least_tellers(QUEUED, "log0-x"))

    def test_two_together(self):
        # Each log has a letter of one of two choices.
        same = ((0, 1),)
        floor = Floor(one_person(
            (0,), (2,),
            (
                (0, "a", 1, same, ("x", "")), (0, "b", 1, same, ("y", "")),
                (1, "a", 2, same, ("", "x")), (1, "b", 2, same, ("", "y")),
            ), ((), (), ()), logs=2,
        ))
        self.assertEqual(least_tellers(floor, "deeds"), (("log0", "log1"), ("sight0",)))

    def test_rows_that_keep_no_pace_are_none(self):
        # The first log has the deed a, the second one b; together they would not tell the order.
        same = ((0, 1),)
        floor = Floor(one_person(
            (0,), (0,), ((0, "a", 0, same, ("x", "")), (0, "b", 0, same, ("", "y"))), ((),), logs=2,
        ))
        self.assertEqual(least_tellers(floor, "deeds"), (("sight0",),))
        self.assertEqual(least_tellers(floor, "deeds-ab"), ((),))
        self.assertEqual(least_tellers(floor, "deeds-a"), (("log1",), ("sight0",)))


class Holds(unittest.TestCase):
    def right(self, floor, row, tape, paper):
        self.assertTrue(tells_right(floor, row, tape, paper), paper)
        self.assertIs(tells_holds(floor, row, tape, paper), True, paper)

    def wrong(self, floor, row, tape, paper):
        self.assertFalse(tells_right(floor, row, tape, paper), paper)
        self.assertIs(tells_holds(floor, row, tape, paper), False, paper)

    def test_example(self):
        table = ((0, 0, (), (), ()), (1, 1, (), (), ()))
        self.right(FLOOR, ("log1",), "log0", ("tells", table))
        self.wrong(FLOOR, ("log1",), "log0", ("tells", table[:1]))
        self.wrong(FLOOR, ("log1",), "log0", ("tells", table[1:]))
        self.wrong(FLOOR, ("log1",), "log0", ("tells", ()))
        self.wrong(FLOOR, ("log0",), "log1", ("tells", table))
        self.wrong(FLOOR, (), "log0", ("tells", table))

    def test_more_items_than_needed(self):
        table = ((0, 0, (), (), ()), (1, 1, (), (), ()))
        # Two unlike stands can come to no two days alike on the first log and on the sight.
        house = made(MILL_PARTS, places=2, ends=(0,), looks=((((0, 1),), ()), ((), ())), arrows=MILL.arrows + (
            (1, "b", 1, ((0, 1),), ("q", "")),
        ))
        self.right(Floor(house), ("log1",), "log0", ("tells", table))
        # An item for an open pair that is not met brings others with it.
        both = ((0, 0, (), (), ()), (0, 1, (), (), ("x",)), (1, 0, (), ("x",), ()), (1, 1, (), (), ()))
        single = Floor(one_person((0,), (1,), ((0, "a", 1, ((0, 1),), ("x",)),), ((), ()), logs=1))
        self.right(single, (), "log0", ("tells", both))
        self.wrong(single, (), "log0", ("tells", both[:1] + both[2:]))

    def test_items_that_are_not_open(self):
        floor = QUEUED
        row = ("log1", "log0")
        table = least_table(floor, row, "deeds")
        for item in (
            (0, 0, ((("q",), ()),), ("r", "s"), ()), (1, 3, (((), ("x", "x", "x", "x")),), (), ("none", "such")),
            (2, 2, ((("a b",), ()),), ("\n",), ()), (0, 1, (((), ()),), ("?",), ()),
        ):
            self.right(floor, row, "deeds", ("tells", tuple(sorted(table + (item,)))))
        self.wrong(floor, row, "deeds", ("tells", tuple(sorted(table + ((0, 0, ((("x",), ("y",)),), (), ()),)))))
        self.wrong(floor, row, "deeds", ("tells", tuple(sorted(table + ((0, 0, ((("",), ()),), (), ()),)))))
        self.wrong(floor, row, "deeds", ("tells", tuple(sorted(table + ((0, 0, ((("q",), ()),), ("r",), ("s",)),)))))
        self.wrong(floor, row, "deeds", ("tells", tuple(sorted(table + ((0, 0, ((("q",), ()),), ("",), ()),)))))

    def test_items_with_other_numbers_of_rests(self):
        for row in (("log1",), ("log1", "log0"), ("log0", "log1"), ()):
            table = least_table(QUEUED, row, row[0] if row else "deeds-abc")
            tape = row[0] if row else "deeds-abc"
            needed = max(0, len(row) - 1)
            for count in range(4):
                for rest in ((("q",), ()), ((), ())):
                    item = (QUEUED.useful[1], QUEUED.useful[-1], (rest,) * count, ("q",), ())
                    thing = ("tells", tuple(sorted(table + (item,))))
                    right = tells_right(QUEUED, row, tape, thing)
                    self.assertIs(tells_holds(QUEUED, row, tape, thing), right, thing)
                    if count != needed:
                        self.assertIs(right, False)

    def test_open_items_that_are_not_met(self):
        """Items for pairs at which two days could go on alike must be right, met or not."""
        floor = Floor(HELD_BACK)
        row = ("log0",)
        table = least_table(floor, row, "log1")
        known = {item[:3] for item in table}
        for stand, other in itertools.product(floor.useful, repeat=2):
            if (stand, other, ()) in known:
                continue
            for left in (((), ()), (("x",), ()), ((), ("x",)), ((), ("y", "x"))):
                thing = ("tells", tuple(sorted(table + ((stand, other, ()) + left,))))
                self.assertIs(tells_holds(floor, row, "log1", thing), tells_right(floor, row, "log1", thing), thing)

    def test_one_pair_with_two_left_overs(self):
        row = ("log1", "log0")
        table = least_table(QUEUED, row, "deeds")
        more = ((0, 0, ((("q",), ()),), (), ()), (0, 0, ((("q",), ()),), ("a",), ()))
        self.right(QUEUED, row, "deeds", ("tells", tuple(sorted(table + more[:1]))))
        self.right(QUEUED, row, "deeds", ("tells", tuple(sorted(table + more[1:]))))
        self.wrong(QUEUED, row, "deeds", ("tells", tuple(sorted(table + more))))

    def test_changed_tables(self):
        for floor in (FLOOR, QUEUED, Floor(HELD_BACK), Floor(FORK)):
            for row in rows(floor, 3)[::2]:
                for tape in names(floor)[:3]:
                    if not does_tell(floor, row, tape):
                        continue
                    table = least_table(floor, row, tape)
                    for at, item in list(enumerate(table))[:6]:
                        things = [table[:at] + table[at + 1:], table[:at] + (item, item) + table[at + 1:]]
                        for left in (
                            (("a",), ()), ((), ("x",)), (("x",), ("y",)), (("",), ()), (("x", "x"), ()), ((), ()),
                        ):
                            things.append(table[:at] + (item[:3] + left,) + table[at + 1:])
                        for thing in things:
                            paper = ("tells", thing)
                            self.assertIs(
                                tells_holds(floor, row, tape, paper), tells_right(floor, row, tape, paper), paper
                            )

    def test_altered_papers(self):
        for floor in map(Floor, (MILL, FORK, HELD_BACK, NEVER) + RANDOM[:8]):
            for row in rows(floor, 3):
                for tape in names(floor)[:3]:
                    paper = tells(floor, row, tape)
                    if len(str(paper)) > 110:
                        continue
                    for thing in altered(paper):
                        right = tells_right(floor, row, tape, thing)
                        self.assertIs(tells_holds(floor, row, tape, thing), right, (row, tape, thing))

    def test_altered_paper_with_rests(self):
        row = ("log1", "log0")
        table = [item for item in least_table(QUEUED, row, "log1") if item[2] != (((), ()),)][:2]
        self.assertEqual(len(table), 2)
        whole = least_table(QUEUED, row, "log1")
        for item in table:
            others = tuple(other for other in whole if other != item)
            for thing in altered(item):
                try:
                    paper = ("tells", tuple(sorted(others + (thing,))))
                except TypeError:
                    paper = ("tells", others + (thing,))
                self.assertIs(
                    tells_holds(QUEUED, row, "log1", paper), tells_right(QUEUED, row, "log1", paper), thing
                )

    def test_two_days(self):
        for paper, right in (
            (("parts", "b", ""), True), (("parts", "", "b"), True), (("parts", "aab", "aba"), True),
            (("parts", "ab", "ab"), False), (("parts", "", ""), False), (("parts", "a", "b"), False),
            (("parts", "a", ""), False), (("parts", "bb", "b"), True), (("parts", "c", ""), False),
            (("parts", "b", "bc"), False), (("parts", "b" * 300, "b" * 299), True), (("parts", "ab", "ba"), True),
        ):
            (self.right if right else self.wrong)(FLOOR, ("log0",), "log1", paper)
            self.wrong(FLOOR, ("log1",), "log0", paper)
            self.wrong(FLOOR, ("log0",), "log0", paper)

    def test_runs_that_are_no_days(self):
        floor = Floor(FORK)
        self.right(floor, (), "log0", ("parts", "b", "aa"))
        self.wrong(floor, (), "log0", ("parts", "", "aa"))
        self.wrong(floor, (), "log0", ("parts", "b", "a"))
        self.wrong(floor, (), "log0", ("parts", "b", "aab"))
        self.wrong(floor, (), "log0", ("parts", "ca", "aa"))
        self.right(floor, ("deeds-c",), "deeds", ("parts", "bc", "b"))
        self.wrong(floor, ("deeds-c",), "log0", ("parts", "bc", "b"))

    def test_rows_of_several(self):
        floor = Floor(NEVER)
        self.right(floor, ("log0-mpq",), "log1", ("parts", "ad", "bd"))
        self.right(floor, ("log0-mpq", "deeds-abd"), "log1", ("parts", "ad", "bd"))
        self.wrong(floor, ("log0", "deeds"), "log1", ("parts", "ad", "bd"))
        self.wrong(floor, ("log0-pqt", "deeds-cd"), "log1", ("parts", "ad", "bd"))
        self.wrong(floor, ("deeds-cd", "log0-pqt"), "log1", ("parts", "ad", "bd"))

    def test_no_days(self):
        floor = Floor(BARE)
        self.right(floor, ("deeds",), "sight0", ("tells", ()))
        self.wrong(floor, ("deeds",), "sight0", ("tells", ((0, 0, (), (), ()),)))
        self.wrong(floor, ("deeds",), "sight0", ("parts", "", ""))

    def test_any_values(self):
        things = any_values() + [
            FLOOR, "tells", "parts", ("tells",), ("parts",), ("tells", None), ("parts", "b"), ("parts", None, ""),
            ("parts", "b", ["b"]), (FLOOR, ()), ("tells", [(0, 0, (), (), ())]),
        ]
        for thing in things:
            for row, tape in ((("log0",), "log1"), (("log1",), "log0"), ((), "deeds")):
                for paper in (thing, ("tells", thing), ("tells", (thing,)), ("parts", thing, ""), ("parts", "b", thing),
                              ("tells", ((0, 0, thing, (), ()),)), ("tells", ((0, thing, (), (), ()),))):
                    right = tells_right(FLOOR, row, tape, paper)
                    self.assertIs(tells_holds(FLOOR, row, tape, paper), right, repr(paper)[:90])

    def test_papers_of_other_rows(self):
        for floor in (FLOOR, Floor(FORK), Floor(NEVER)):
            found = [(row, tape, tells(floor, row, tape)) for row in rows(floor, 6) for tape in names(floor)]
            for row, tape, _ in found[::3]:
                for _, _, paper in found:
                    self.assertIs(tells_holds(floor, row, tape, paper), tells_right(floor, row, tape, paper))

    def test_thing_stays(self):
        thing = ("tells", [[0, 0, (), (), []], {"a": [1]}])
        kept = copy.deepcopy(thing)
        tells_holds(FLOOR, ("log1",), "log0", thing)
        self.assertEqual(thing, kept)


class Refused(unittest.TestCase):
    CALLS = (
        tells, does_tell, least_table, fewest_deeds,
        lambda floor, row, tape: tells_holds(floor, row, tape, ("parts", "b", "")),
    )

    def no_tape(self, row, tape, thing):
        for call in self.CALLS:
            with self.assertRaises(NoTape) as caught:
                call(FLOOR, row, tape)
            self.assertIs(caught.exception.thing, thing)

    def test_row_that_is_no_tuple(self):
        for thing in any_values() + ["deeds", "log0", ["deeds"], {"deeds": True}, FLOOR, 0]:
            if not isinstance(thing, tuple):
                for tape in ("log0", "log9", None):
                    self.no_tape(thing, tape, thing)

    def test_item_that_is_no_tape(self):
        for thing in WRONG_NAMES + tuple(any_values()):
            for row in (
                (thing,), ("log0", thing), (thing, "log0"), ("log0", "log0", thing), ("log0", "log1", thing, None),
                (thing, "log9"), ("deeds", thing, "deeds"),
            ):
                self.no_tape(row, "log9", thing)

    def test_tape_twice(self):
        for row in (("log0", "log0"), ("log0", "log1", "log0"), ("deeds", "log1", "log1"), ("log0-x", "log0-x")):
            self.no_tape(row, "log0", row)
            self.no_tape(row, "log9", row)

    def test_told_value_that_is_no_tape(self):
        for thing in WRONG_NAMES + tuple(any_values()):
            for row in (("log0",), (), ("log0", "log1"), ("log1", "log0", "deeds")):
                self.no_tape(row, thing, thing)
            with self.assertRaises(NoTape) as caught:
                least_tellers(FLOOR, thing)
            self.assertIs(caught.exception.thing, thing)

    def test_no_pace(self):
        for row, pair in (
            (("log0", "log1"), ("log0", "log1")), (("log1", "log0"), ("log1", "log0")),
            (("deeds", "log1", "log0"), ("deeds", "log0")), (("deeds", "log0", "log1"), ("deeds", "log0")),
            (("log0", "deeds", "log1"), ("log0", "deeds")), (("log0", "sight0", "sight1", "deeds"), ("log0", "sight1")),
            (("log0", "log1-x", "log1"), ("log0", "log1-x")),
        ):
            for tape in ("log0", "log1", "deeds"):
                for call in self.CALLS:
                    with self.assertRaises(NoPace) as caught:
                        call(FLOOR, row, tape)
                    paper = caught.exception.paper
                    self.assertEqual(paper[0], "drifts")
                    self.assertTrue(pace_right(FLOOR, *pair, paper), (row, paper))

    def test_no_pace_comes_behind_no_tape_and_ahead_of_not_told(self):
        self.no_tape(("log0", "log1"), "log2", "log2")
        with self.assertRaises(NoPace):
            least_table(FLOOR, ("log0", "log1"), "deeds")
        with self.assertRaises(NotTold):
            least_table(FLOOR, ("log0",), "deeds")

    def test_papers_for_the_right_pair_alone(self):
        # The drift of the first tape and the third one is none of the first and the second one.
        floor = Floor(made(MILL_PARTS, arrows=(
            (0, "a", 0, ((1, -1),), ("x", "")), (0, "b", 0, ((0, 1),), ("", "y")),
        )))
        with self.assertRaises(NoPace) as caught:
            tells(floor, ("deeds-ab", "log0-y", "log1"), "deeds")
        self.assertTrue(pace_right(floor, "deeds-ab", "log0-y", caught.exception.paper))
        with self.assertRaises(NoPace) as caught:
            tells(floor, ("deeds-ab", "log0-x", "log1"), "deeds")
        self.assertTrue(pace_right(floor, "deeds-ab", "log1", caught.exception.paper))

    def test_no_useful_stands(self):
        floor = Floor(made(MILL_PARTS, ends=()))
        self.assertIs(does_tell(floor, ("log0", "log1"), "deeds"), True)
