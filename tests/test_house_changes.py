"""Houses made from others by barring and renaming, and which houses are equal."""

import itertools
import unittest

from loghouse.errors import BadHouse, BadText
from loghouse.houses import House
from tests.samples import (
    ALL_PARTS, BARE, FULL, FULL_LETTERS, FULL_PARTS, HOUSES, MILL, MILL_PARTS, MILL_TEXT, PARTS, YARD, YARD_PARTS,
    any_values, attributes, made, random_parts,
)


def without(parts, letters):
    """The parts without the arrows and tests with these deeds."""
    return {
        **parts,
        "arrows": tuple(arrow for arrow in parts["arrows"] if arrow[1] not in letters),
        "tests": tuple(test for test in parts["tests"] if test[1] not in letters),
    }


def with_letters(parts, letters):
    """The parts with other letters for deeds."""
    def put(rows, at):
        return tuple(sorted(row[:at] + (letters.get(row[at], row[at]),) + row[at + 1:] for row in rows))
    arrows, tests = put(parts["arrows"], 1), put(parts["tests"], 1)
    return {**parts, "deeds": put(parts["deeds"], 0), "arrows": arrows, "tests": tests}


class Barred(unittest.TestCase):
    def test_one_deed(self):
        house = MILL.barred("a")
        self.assertEqual(attributes(house), {**MILL_PARTS, "arrows": ((0, "b", 0, ((0, 1),), ("", "y")),)})
        house = YARD.barred("c")
        self.assertEqual(house.deeds, (("c", 1), ("f", 0), ("z", 1)))
        self.assertEqual([arrow[:3] for arrow in house.arrows], [(0, "z", 0), (1, "f", 1)])
        self.assertEqual(house.tests, ((0, "z", (0, 1, 1), -10, 10),))
        self.assertEqual(house.looks, YARD_PARTS["looks"])
        self.assertEqual(YARD.barred("z").tests, YARD_PARTS["tests"][1:])

    def test_none(self):
        for parts in ALL_PARTS:
            self.assertEqual(attributes(House(**parts).barred("")), parts)

    def test_all(self):
        for parts in ALL_PARTS:
            letters = "".join(letter for letter, _ in parts["deeds"])
            self.assertEqual(attributes(House(**parts).barred(letters)), {**parts, "arrows": (), "tests": ()})

    def test_deeds_without_arrows(self):
        self.assertEqual(attributes(BARE.barred("a")), attributes(BARE))

    def test_any_order_and_letters_twice(self):
        for letters in itertools.product("cfz", repeat=3):
            deeds = "".join(letters)
            house = YARD.barred(deeds)
            self.assertEqual(attributes(house), without(YARD_PARTS, deeds), deeds)
        self.assertEqual(YARD.barred("zc"), YARD.barred("cz"))
        self.assertEqual(YARD.barred("zczzc"), YARD.barred("cz"))
        self.assertEqual(YARD.barred("ff"), YARD.barred("f"))

    def test_all_sets_of_deeds(self):
        for many in range(6):
            for letters in itertools.combinations(FULL_LETTERS, many):
                for deeds in ("".join(letters), "".join(reversed(letters))):
                    self.assertEqual(attributes(FULL.barred(deeds)), without(FULL_PARTS, deeds))

    def test_many_houses(self):
        for seed in range(60):
            parts = random_parts(seed)
            letters = "".join(letter for letter, _ in parts["deeds"])
            for deeds in (letters[:1], letters[1:], letters[::-2]):
                self.assertEqual(attributes(House(**parts).barred(deeds)), without(parts, deeds))

    def test_house_stays(self):
        house = made(YARD_PARTS)
        barred = house.barred("c")
        self.assertEqual(attributes(house), YARD_PARTS)
        self.assertIs(type(barred), House)
        self.assertNotEqual(house, barred)

    def test_barred_again(self):
        self.assertEqual(FULL.barred("ae").barred("em"), FULL.barred("aem"))

    def test_by_name(self):
        self.assertEqual(MILL.barred(deeds="b"), MILL.barred("b"))

    def test_has_a_text(self):
        self.assertEqual(House.read(str(FULL.barred("sz"))), FULL.barred("sz"))
        self.assertEqual(str(MILL.barred("ab")), MILL_TEXT.replace(
            "arrow 0 a 0 1,-1 xx\narrow 0 b 0 0,1 -y\n", ""))


class Renamed(unittest.TestCase):
    def refuse(self, house, **letters):
        """The letters are refused."""
        with self.subTest(letters=letters):
            ahead = attributes(house)
            with self.assertRaises(BadHouse) as caught:
                house.renamed(**letters)
            self.assertEqual(caught.exception.part, "deeds")
            self.assertEqual(attributes(house), ahead)

    def test_one_deed(self):
        self.assertEqual(attributes(MILL.renamed(a="c")), {
            **MILL_PARTS, "deeds": (("b", 1), ("c", 0)),
            "arrows": ((0, "b", 0, ((0, 1),), ("", "y")), (0, "c", 0, ((1, -1),), ("x", "x"))),
        })
        self.assertEqual(attributes(MILL.renamed(b="z")), {
            **MILL_PARTS, "deeds": (("a", 0), ("z", 1)),
            "arrows": ((0, "a", 0, ((1, -1),), ("x", "x")), (0, "z", 0, ((0, 1),), ("", "y"))),
        })

    def test_exchanged(self):
        self.assertEqual(attributes(MILL.renamed(a="b", b="a")), {
            **MILL_PARTS, "deeds": (("a", 1), ("b", 0)),
            "arrows": ((0, "a", 0, ((0, 1),), ("", "y")), (0, "b", 0, ((1, -1),), ("x", "x"))),
        })
        self.assertEqual(MILL.renamed(b="a", a="b"), MILL.renamed(a="b", b="a"))
        self.assertEqual(MILL.renamed(a="b", b="a").renamed(a="b", b="a"), MILL)

    def test_all_tuples_ascend_again(self):
        house = YARD.renamed(c="z", z="c", f="a")
        self.assertEqual(house.deeds, (("a", 0), ("c", 1), ("z", 1)))
        self.assertEqual([arrow[:3] for arrow in house.arrows], [(0, "c", 0), (0, "z", 1), (1, "a", 1), (1, "z", 0)])
        self.assertEqual([test[:2] for test in house.tests], [(0, "c"), (1, "z"), (1, "z")])
        self.assertEqual(attributes(house), with_letters(YARD_PARTS, {"c": "z", "z": "c", "f": "a"}))

    def test_tests_of_unlike_deeds_ascend_again(self):
        tests = ((0, "c", (0, 1, 0), 0, 1), (0, "z", (0, 1, 0), 0, 1), (0, "z", (0, 1, 0), 1, 1))
        house = made(YARD_PARTS, tests=tests).renamed(c="z", z="c")
        self.assertEqual(house.tests, (
            (0, "c", (0, 1, 0), 0, 1), (0, "c", (0, 1, 0), 1, 1), (0, "z", (0, 1, 0), 0, 1),
        ))

    def test_marks_stay(self):
        house = made(MILL_PARTS, arrows=((0, "a", 0, ((1, -1),), ("a", "b")), (0, "b", 0, ((0, 1),), ("b", "a"))))
        self.assertEqual(house.renamed(a="b", b="a").arrows, (
            (0, "a", 0, ((0, 1),), ("b", "a")), (0, "b", 0, ((1, -1),), ("a", "b")),
        ))

    def test_nothing(self):
        for parts in ALL_PARTS:
            house = House(**parts)
            self.assertEqual(attributes(house.renamed()), parts)
            same = {letter: letter for letter, _ in parts["deeds"]}
            self.assertEqual(attributes(house.renamed(**same)), parts)

    def test_all_ways_to_exchange(self):
        for letters in itertools.permutations(FULL_LETTERS):
            new = dict(zip(FULL_LETTERS, letters))
            self.assertEqual(attributes(FULL.renamed(**new)), with_letters(FULL_PARTS, new))

    def test_letters_from_one_to_the_next(self):
        new = {"a": "e", "e": "m", "m": "s", "s": "z", "z": "x"}
        self.assertEqual(attributes(FULL.renamed(**new)), with_letters(FULL_PARTS, new))

    def test_many_houses(self):
        for seed in range(60):
            parts = random_parts(seed)
            letters = [letter for letter, _ in parts["deeds"]]
            free = [letter for letter in "qjxvkbwzmc" if letter not in letters]
            for new in (
                dict(zip(letters, letters[::-1])), dict(zip(letters[1:], free)), dict(zip(letters, free)),
                dict(zip(letters, letters[1:] + free)),
            ):
                self.assertEqual(attributes(House(**parts).renamed(**new)), with_letters(parts, new))

    def test_all_letters(self):
        for letter in "abcdefghijklmnopqrstuvwxyz":
            self.assertEqual(BARE.renamed(a=letter).deeds, ((letter, 0),))

    def test_taken_twice(self):
        self.refuse(MILL, a="b")
        self.refuse(MILL, b="a")
        self.refuse(MILL, a="c", b="c")
        self.refuse(MILL, a="b", b="b")
        self.refuse(MILL, a="a", b="a")
        self.refuse(YARD, c="f", f="z")
        self.refuse(YARD, c="f", f="c", z="c")
        self.refuse(YARD, c="x", z="x")
        self.refuse(made(MILL_PARTS, arrows=()), a="b")
        for one, other in itertools.permutations(FULL_LETTERS, 2):
            self.refuse(FULL, **{one: other})
            self.refuse(FULL, **{one: "k", other: "k"})

    def test_no_letters(self):
        wrong = ["", "A", "Z", "`", "{", "ab", "bb", "1", " ", "-", "a ", "\n", 0, 1, (), ("c",), ["c"]]
        for value in any_values() + wrong:
            self.refuse(MILL, a=value)
            self.refuse(MILL, b=value)
            self.refuse(MILL, a=value, b=value)
            self.refuse(MILL, a="c", b=value)
            self.refuse(BARE, a=value)
            self.refuse(FULL, z=value, a="k")

    def test_values_stay(self):
        value = [["c"], {"d": ["e"]}]
        self.refuse(MILL, a=value)
        self.assertEqual(value, [["c"], {"d": ["e"]}])

    def test_house_stays(self):
        house = made(YARD_PARTS)
        renamed = house.renamed(c="d")
        self.assertEqual(attributes(house), YARD_PARTS)
        self.assertIs(type(renamed), House)
        self.assertNotEqual(house, renamed)

    def test_has_a_text(self):
        house = YARD.renamed(c="z", z="c")
        self.assertEqual(House.read(str(house)), house)
        self.assertEqual(str(MILL.renamed(a="b", b="a")), "\n".join((
            "people 2", "deed a 1", "deed b 0", "start 0", "places 1", "ends 0", "logs 2",
            "arrow 0 a 0 0,1 -y", "arrow 0 b 0 1,-1 xx", "look 0 0 0,1",
        )))

    def test_barred_and_renamed(self):
        self.assertEqual(YARD.renamed(c="k").barred("k"), YARD.barred("c").renamed(c="k"))


# For each part a right one that is another one, of a house that allows it.
OPEN_PARTS = {**YARD_PARTS, "arrows": (), "tests": (), "looks": (((), ()), ((), ()))}
OTHERS = (
    (YARD_PARTS, "deeds", (("c", 0), ("f", 0), ("z", 1))),
    (YARD_PARTS, "deeds", (("c", 1), ("f", 0), ("y", 1), ("z", 1))),
    (OPEN_PARTS, "deeds", (("d", 1), ("f", 0), ("z", 1))),
    (YARD_PARTS, "start", (-7, 11)),
    (YARD_PARTS, "start", (12, -7)),
    (OPEN_PARTS, "start", (-7, 12, 0)),
    (YARD_PARTS, "ends", ()),
    (YARD_PARTS, "ends", (0,)),
    (YARD_PARTS, "ends", (1,)),
    (OPEN_PARTS, "logs", 0),
    (OPEN_PARTS, "logs", 2),
    ({**YARD_PARTS, "tests": ()}, "arrows", YARD_PARTS["arrows"][:3]),
    (YARD_PARTS, "arrows", YARD_PARTS["arrows"][:3] + ((1, "f", 0, ((0, 1, 0), (0, 0, 1)), ("z",)),)),
    (YARD_PARTS, "arrows", YARD_PARTS["arrows"][:3] + ((1, "f", 1, ((0, 1, 0), (1, 0, 1)), ("z",)),)),
    (YARD_PARTS, "arrows", YARD_PARTS["arrows"][:3] + ((1, "f", 1, ((0, 1, 0), (0, 0, 1)), ("",)),)),
    (YARD_PARTS, "tests", ()),
    (YARD_PARTS, "tests", YARD_PARTS["tests"][:2]),
    (YARD_PARTS, "tests", YARD_PARTS["tests"][:2] + ((1, "c", (1, 0, 2), 0, 901),)),
    (YARD_PARTS, "looks", (((), ()), ((), ()))),
    (YARD_PARTS, "looks", ((((4, 0, -1), (0, 1, 0)), ()), ((), ((0, 1, -1),)))),
    (YARD_PARTS, "looks", ((((0, 1, 0), (4, 0, -1)), ()), (((0, 1, -1),), ()))),
    ({**OPEN_PARTS, "ends": ()}, "looks", (((), ((0, 0, 0),)), ((), ()))),
)


class Equal(unittest.TestCase):
    def test_equal_attributes(self):
        for parts in ALL_PARTS + tuple(random_parts(seed) for seed in range(30)):
            one, other = House(**parts), House(**parts)
            self.assertIs(one == other, True)
            self.assertIs(one == one, True)
            self.assertIs(one != other, False)
            self.assertIs(one == House.read(str(other)), True)

    def test_one_part_unlike(self):
        for parts, part, value in OTHERS:
            with self.subTest(part=part, value=value):
                one, other = House(**parts), made(parts, **{part: value})
                for left, right in ((one, other), (other, one)):
                    self.assertIs(left == right, False)
                    self.assertIs(left != right, True)

    def test_other_numbers_of_people_and_places(self):
        bare = dict(start=(0,), deeds=(("a", 0),), ends=(), logs=0, arrows=(), tests=())
        houses = [
            House(people=people, places=places, looks=(((),) * places,) * people, **bare)
            for people in (1, 2, 3) for places in (1, 2, 3)
        ]
        for at, one in enumerate(houses):
            for to, other in enumerate(houses):
                self.assertIs(one == other, at == to)

    def test_unlike_houses(self):
        for at, one in enumerate(HOUSES):
            for to, other in enumerate(HOUSES):
                self.assertIs(one == other, at == to)
                self.assertIs(one != other, at != to)

    def test_no_house(self):
        for house in HOUSES:
            parts = attributes(house)
            for value in any_values() + [
                0, (), {}, str(house), parts, tuple(parts.values()), list(parts.values()), [house], (house,),
                {"house": house}, BadHouse("deeds"), BadText(1), tuple(PARTS), house.deeds,
            ]:
                with self.subTest(house=house, value=value):
                    if value is house:
                        continue
                    self.assertIs(house == value, False)
                    self.assertIs(value == house, False)
                    self.assertIs(house != value, True)
                    self.assertIs(value != house, True)

    def test_within_other_values(self):
        self.assertEqual([MILL, {"a": (YARD,)}], [made(MILL_PARTS), {"a": (made(YARD_PARTS),)}])
        self.assertIn(made(YARD_PARTS), (MILL, YARD))
        self.assertNotIn(made(YARD_PARTS, ends=()), [MILL, YARD, "", None])

    def test_comparing_changes_nothing(self):
        one, value = made(MILL_PARTS), [1, {"a": [2]}]
        self.assertFalse(one == value)
        self.assertEqual((attributes(one), value), (MILL_PARTS, [1, {"a": [2]}]))


if __name__ == "__main__":
    unittest.main()
