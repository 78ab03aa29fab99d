"""Houses that go beyond all bounds along a ring of one or a few deeds: judged rightly, and soon."""

import random
import time
import unittest

from loghouse.errors import Beyond
from loghouse.floors import Floor
from loghouse.houses import House
from loghouse.values import bounds_hold, is_bounded, judge_bounds
from tests.papers import bounds_right
from tests.samples import attributes, made, random_parts
from tests.test_bounds import GOING, STAYING, spots_of
from tests.yards import CUBE, SAME2, one_person, put_in_all_ways

TRIPLED = House(
    1, (("m", 0),), (1, 1, 1), 1, (0,), 0,
    ((0, "m", 0, ((20, 3, 3, 3), (20, 3, 3, 3), (20, 3, 3, 2)), ()),), (), ((((0, 1, 0, 0), (0, 0, 1, 0)),),),
)
DOUBLED = House(1, (("m", 0),), (1,), 1, (0,), 0, ((0, "m", 0, ((0, 2),), ()),), (), ((((0, 1),),),))
COUNTED = House(1, (("m", 0),), (1,), 1, (0,), 0, ((0, "m", 0, ((1, 1),), ()),), (), ((((0, 1),),),))
TOLD = (TRIPLED, DOUBLED, COUNTED)
# Fibonacci's numbers, looked at as a difference; a counter beside what is only turned; a chain of three.
TWO = (
    one_person((0, 1), (0,), ((0, "a", 0, ((0, 0, 1), (0, 1, 1)), ()),), (((0, 1, -1),),)),
    one_person((3, 0), (0,), (
        (0, "a", 0, ((5, -1, 0), (0, 0, 1)), ()), (0, "b", 0, ((0, 0, 1), (0, 1, 0)), ()),
        (0, "c", 0, ((0, 1, 0), (-1, 0, 1)), ()),
    ), (((0, 1, 0),),), deeds="abc"),
    one_person((-50, 50), (), ((0, "a", 0, ((20, 3, 0), (-20, 0, -3)), ()),), (((0, 1, 1),),)),
)
THREE = (
    one_person((0, 0, 1), (0,), (
        (0, "a", 0, ((0, 1, 1, 0), (0, 0, 1, 1), (0, 0, 0, 1)), ()),
        (0, "b", 0, ((0, 0, 1, 0), (0, 0, 0, 1), (0, 1, 0, 0)), ()),
    ), (((0, 1, 0, 0),),)),
    one_person((1, 2, 3), (0,), (
        (0, "a", 0, ((0, 2, -1, 0), (0, 0, 2, -1), (0, -1, 0, 2)), ()),
        (0, "b", 0, ((1, 0, 0, 0), (1, 0, 0, 0), (1, 0, 0, 0)), ()),
        (0, "c", 0, ((0, 0, -1, 0), (0, 0, 0, -1), (0, -1, 0, 0)), ()),
    ), (((0, 0, 0, 1),),), deeds="abc"),
)


def around(forms, looks=((0, 1, 0),)):
    """A house whose deed a leads around three places, and whose other deeds stay and change nothing seen for ever."""
    stay = tuple((place, deed, place, SAME2, ()) for place in range(3) for deed in "bc")
    lead = tuple((place, "a", (place + 1) % 3, row, ()) for place, row in enumerate(forms))
    return one_person((1, 2), (0,), tuple(sorted(stay + lead)), (looks, (), ()), deeds="abc")


MIRRORED = ((0, -1, 0), (0, 0, -1))
PLACES = (
    around((SAME2, ((1, 1, 0), (0, 0, 1)), SAME2)),
    around((((0, 0, 1), (0, 1, 0)), ((1, 0, 1), (0, 1, 0)), SAME2)),
    around((((0, 1, 1), (0, 0, 1)), MIRRORED, SAME2)),
    # Something is kept at the place 0 alone, where two deeds make a ring.
    one_person((0, 0), (0,), (
        (0, "a", 0, ((0, -1, 0), (0, 0, 1)), ()), (0, "b", 1, SAME2, ()), (0, "c", 0, ((3, -1, 0), (0, 0, 1)), ()),
        (1, "a", 1, ((0, 2, 0), (0, 0, 1)), ()),
    ), (((0, 1, 0),), ()), deeds="abc"),
)


def turned_about(middles):
    """A house with mirrors, one for each middle; two of them make a ring, and places one behind the other more."""
    count = len(middles)
    return one_person(
        (1,), (0,), tuple(
            (place, "abcde"[at], (place + 1) % 3, ((2 * middle if place == at % 3 else 2 * middles[0], -1),), ())
            for place in range(3) for at, middle in enumerate(middles)
        ), (((0, 1),), (), ()), deeds="abcde"[:count],
    )


LONGER = (
    turned_about((0, 1)), turned_about((1, 1, 2)), turned_about((0, 0, 0, 0, 3)),
    # A fourth of a turn about one middle or another one.
    one_person((1, 1), (0,), (
        (0, "a", 0, ((0, 0, -1), (0, 1, 0)), ()), (0, "b", 0, ((1, 0, -1), (0, 1, 0)), ()),
        (0, "c", 0, ((0, 0, -1), (0, 1, 0)), ()),
    ), (((0, 1, 0),),), deeds="abc"),
)
SOON = TOLD + TWO + THREE + PLACES + LONGER


def many_spots(seed):
    """A house that stays within bounds, of three registers that are exchanged, mirrored and set; often many spots."""
    dice = random.Random(seed)
    places, middles = dice.randint(2, 3), [dice.randint(-1, 2) for _ in range(3)]

    def form(at, other):
        if dice.random() < 0.12:
            return (dice.randint(-9, 9), 0, 0, 0)
        factor = dice.choice((1, -1))
        return (middles[at] - factor * middles[other],) + tuple(factor * int(k == other) for k in range(3))

    arrows = tuple(
        (source, deed, dice.randrange(places), tuple(map(form, range(3), dice.sample(range(3), 3))), ())
        for source in range(places) for deed in "abc"
    )
    units = tuple((0,) + unit[1:] for unit in ((0, 1, 0, 0), (0, 0, 1, 0), (0, 0, 0, 1)))
    return one_person((3, 4, 5), (0,), arrows, (units[:2], units[2:], ())[:places], deeds="abc")


class Soon(unittest.TestCase):
    def test_right_papers(self):
        for house in SOON:
            with self.subTest(house=str(house)):
                paper = judge_bounds(house)
                self.assertEqual(paper[0], "beyond")
                self.assertTrue(bounds_right(house, paper), paper)
                self.assertIs(bounds_hold(house, paper), True)
                self.assertIs(is_bounded(house), False)
                with self.assertRaises(Beyond) as caught:
                    Floor(house)
                self.assertTrue(bounds_right(house, caught.exception.paper))

    def test_one_deed(self):
        for house in TOLD:
            self.assertEqual(judge_bounds(house), ("beyond", "", "m", "", 0))

    def test_other_registers(self):
        for house in SOON:
            for other in put_in_all_ways(house):
                paper = judge_bounds(other)
                self.assertEqual(paper[0], "beyond")
                self.assertTrue(bounds_right(other, paper), paper)

    def test_places_in_another_order(self):
        """Rings are found whatever the places on them are called; the place 0 leads to the former one."""
        for house in PLACES[:3] + LONGER[:3]:
            for order in ((1, 2, 0), (2, 1, 0), (2, 0, 1)):
                arrows = tuple(sorted((order[row[0]], row[1], order[row[2]]) + row[3:] for row in house.arrows))
                looks = (tuple(house.looks[0][order.index(place)] for place in range(3)),)
                for start in ((2, 3), (1, 5)):
                    other = made(attributes(house), arrows=arrows, looks=looks, start=start[:len(house.start)])
                    paper = judge_bounds(other)
                    self.assertEqual(paper[0], "beyond", str(other))
                    self.assertTrue(bounds_right(other, paper), paper)

    def test_a_hundred_times_each(self):
        begin = time.process_time()
        for house in TOLD * 100:
            judge_bounds(house)
        self.assertLess(time.process_time() - begin, 2)
        begin = time.process_time()
        for house in SOON[3:] * 100:
            is_bounded(house)
        self.assertLess(time.process_time() - begin, 6)

    def test_each_lot_of_deeds_barred(self):
        begin = time.process_time()
        for seed in range(40):
            house = House(**random_parts(seed))
            letters = [letter for letter, _ in house.deeds]
            for lot in range(2 ** len(letters)):
                judge_bounds(house.barred("".join(letter for at, letter in enumerate(letters) if lot >> at & 1)))
        self.assertLess(time.process_time() - begin, 6)


class Within(unittest.TestCase):
    def test_many_spots(self):
        counts = []
        for seed in range(14):
            house = many_spots(seed)
            paper = judge_bounds(house)
            self.assertEqual(paper[0], "within")
            self.assertEqual(paper[2], spots_of(house, paper[1]))
            self.assertTrue(bounds_right(house, paper) if len(paper[2]) < 100 else bounds_hold(house, paper))
            counts.append(len(paper[2]))
        self.assertGreater(max(counts), 700)
        self.assertGreater(len([count for count in counts if count > 150]), 3)

    def test_many_spots_soon(self):
        begin = time.process_time()
        for seed in range(40):
            self.assertIs(is_bounded(many_spots(seed)), True)
        self.assertLess(time.process_time() - begin, 3)

    def test_somewhat_beyond_the_limits(self):
        """Five deeds that set the last of three registers, and turn them: more than four thousand spots."""
        house = one_person(
            (1, 2, 3), (0,), tuple(
                (place, deed, (place + int(deed == "e")) % 3, forms, ())
                for place in range(3)
                for deed, forms in (
                    ("a", ((0, 0, 1, 0), (0, 0, 0, 1), (0, 1, 0, 0))), ("b", ((0, -1, 0, 0), (0, 0, 1, 0), (0, 0, 0, 1))),
                    ("c", ((5 + place, 0, 0, 0), (0, 0, 1, 0), (0, 0, 0, 1))),
                    ("d", ((0, 0, 1, 0), (0, 1, 0, 0), (0, 0, 0, 1))),
                    ("e", ((0, 1, 0, 0), (0, 0, 1, 0), (0, 0, 0, 1))),
                )
            ), (((0, 1, 0, 0), (0, 0, 0, 1)),) * 3, deeds="abcde",
        )
        begin = time.process_time()
        paper = judge_bounds(house)
        self.assertLess(time.process_time() - begin, 2)
        self.assertGreater(len(paper[2]), 4000)
        self.assertIs(bounds_hold(house, paper), True)

    def test_never_the_wrong_sort(self):
        for house in STAYING + (CUBE,):
            self.assertIs(is_bounded(house), True)
        for house in GOING:
            self.assertIs(is_bounded(house), False)


if __name__ == "__main__":
    unittest.main()
