"""Houses: each part right and wrong, and which error tells it."""

import copy
import unittest

from loghouse.errors import BadHouse, HouseError
from loghouse.houses import House
from tests.samples import (
    ALL_PARTS, BARE_PARTS, FULL_LETTERS, FULL_PARTS, MILL, MILL_PARTS, PARTS, YARD_PARTS, any_values,
    attributes, made, random_parts,
)
from tests.wrong import other_lengths, wrong_kinds

BIG = 10 ** 40 - 1

# A wrong value for each part, wrong whatever the others are.
WRONG = {
    "people": 0, "deeds": (), "start": (), "places": 0, "ends": (3,), "logs": 3,
    "arrows": [], "tests": [], "looks": [],
}


class HouseCase(unittest.TestCase):
    def refuse(self, parts, told, **others):
        """The house is refused, and the error bears just this."""
        with self.subTest(told=told, others=others):
            values = {**parts, **others}
            ahead = copy.deepcopy(values)
            with self.assertRaises(BadHouse) as caught:
                House(**values)
            self.assertIs(type(caught.exception), BadHouse)
            self.assertEqual(caught.exception.part, told)
            self.assertIs(type(caught.exception.part), type(told))
            self.assertEqual(values, ahead)
            return caught.exception.part

    def refuse_item(self, parts, part, items, at):
        """The house is refused for the item at one place."""
        self.assertIs(self.refuse(parts, items[at], **{part: items}), items[at])

    def accept(self, parts, **others):
        """The house is made, with these parts."""
        with self.subTest(others=others):
            values = {**parts, **others}
            house = House(**values)
            self.assertEqual(attributes(house), values)
            return house


class Right(HouseCase):
    def test_attributes(self):
        for parts in ALL_PARTS:
            self.accept(parts)

    def test_by_position(self):
        for parts in ALL_PARTS:
            house = House(*[parts[part] for part in PARTS])
            self.assertEqual(attributes(house), parts)

    def test_by_name_in_any_order(self):
        for parts in ALL_PARTS:
            house = House(**{part: parts[part] for part in reversed(PARTS)})
            self.assertEqual(attributes(house), parts)

    def test_attributes_are_of_the_same_kind(self):
        house = House(**FULL_PARTS)
        for part in PARTS:
            self.assertIs(type(getattr(house, part)), type(FULL_PARTS[part]))

    def test_many_houses(self):
        for seed in range(100):
            self.accept(random_parts(seed))

    def test_nothing_of_what_may_lack(self):
        house = self.accept(BARE_PARTS)
        self.assertEqual((house.ends, house.logs, house.arrows, house.tests), ((), 0, (), ()))
        self.assertEqual(house.looks, (((),),))
        self.accept(YARD_PARTS, ends=())
        self.accept(YARD_PARTS, tests=())
        self.accept(YARD_PARTS, looks=(((), ()), ((), ())))
        self.accept(YARD_PARTS, tests=(), arrows=())
        self.accept(MILL_PARTS, logs=0, arrows=((0, "a", 0, ((1, -1),), ()),))

    def test_greatest_numbers(self):
        house = self.accept(FULL_PARTS)
        self.assertEqual((house.people, house.places, house.logs), (3, 3, 2))
        self.assertEqual((len(house.deeds), len(house.start), len(house.ends)), (5, 3, 3))
        self.assertEqual((len(house.arrows), len(house.tests)), (15, 30))

    def test_integers_are_not_limited(self):
        for number in (51, -51, 1001, BIG, -BIG, 10 ** 60, -10 ** 500):
            form = (number, number)
            self.accept(
                BARE_PARTS, start=(number,), arrows=((0, "a", 0, (form,), ()),),
                tests=((0, "a", form, -abs(number), number), (0, "a", (number, 10 ** 501), number, number)),
                looks=(((form, form, form, form),),),
            )

    def test_two_houses_keep_their_own(self):
        one, other = made(MILL_PARTS), made(YARD_PARTS)
        self.assertEqual(attributes(one), MILL_PARTS)
        self.assertEqual(attributes(other), YARD_PARTS)

    def test_defined_here(self):
        self.assertEqual(House.__module__, "loghouse.houses")
        for name in ("__init__", "__eq__", "__str__", "barred", "renamed", "read"):
            self.assertIn(name, vars(House))


class EachPart(HouseCase):
    def test_any_value(self):
        for parts in ALL_PARTS:
            for part in PARTS:
                for value in any_values():
                    if part in ("arrows", "tests") and isinstance(value, tuple):
                        self.refuse_item(parts, part, value, 0)
                    else:
                        self.refuse(parts, part, **{part: value})

    def test_wrong_kinds_at_any_depth(self):
        for parts in (MILL_PARTS, BARE_PARTS, YARD_PARTS):
            for part in PARTS:
                if part in ("arrows", "tests"):
                    continue
                for value in wrong_kinds(parts[part]):
                    self.refuse(parts, part, **{part: value})

    def test_wrong_kinds_at_any_depth_of_items(self):
        for parts in (MILL_PARTS, YARD_PARTS):
            for part in ("arrows", "tests"):
                for at, item in enumerate(parts[part]):
                    for other in wrong_kinds(item):
                        items = parts[part][:at] + (other,) + parts[part][at + 1:]
                        self.refuse_item(parts, part, items, at)

    def test_wrong_lengths_of_items(self):
        for parts in (MILL_PARTS, YARD_PARTS, FULL_PARTS):
            for part in ("arrows", "tests"):
                for at, item in enumerate(parts[part]):
                    for other in other_lengths(item):
                        items = parts[part][:at] + (other,) + parts[part][at + 1:]
                        self.refuse_item(parts, part, items, at)

    def test_people(self):
        for people in (1, 2, 3):
            looks = (((),),) * people
            self.accept(BARE_PARTS, people=people, looks=looks)
        for people in (0, 4, -1, -3, 5, BIG, -BIG, True, False, "1", "3", None, (1,), [2], (), {}, MILL):
            self.refuse(BARE_PARTS, "people", people=people)
            self.refuse(FULL_PARTS, "people", people=people)

    def test_deeds(self):
        for deeds in (
            (("a", 0),), (("z", 0),), (("a", 0), ("b", 0)), (("a", 1), ("b", 0)),
            (("a", 0), ("z", 1)), tuple((letter, 1) for letter in "abcde"),
            tuple((letter, 0) for letter in "vwxyz"),
        ):
            self.accept(MILL_PARTS, deeds=deeds, arrows=())

    def test_wrong_deeds(self):
        for deeds in (
            (), tuple((letter, 0) for letter in "abcdef"), (("b", 0), ("a", 1)), (("b", 0), ("a", 0)),
            (("a", 0), ("a", 0)), (("a", 0), ("a", 1)), (("a", 0), ("b", 0), ("b", 1)),
            (("a", 0), ("c", 0), ("b", 0)), (("a", 2),), (("a", -1),), (("a", 0), ("b", 2)), (("a", BIG),),
            (("a", True),), (("a", False),), (("A", 0),), (("", 0),), (("ab", 0),), (("1", 0),),
            (("`", 0),), (("{", 0),), ((" ", 0),), (("a\n", 0),), (("a",),), (("a", 0, 0),), ((),), ("a",),
            ("a0",), (["a", 0],), [("a", 0)], ((0, "a"),), ((None, 0),), (("a", None),), ((("a",), 0),),
            "a", "a0", {"a": 0}, {("a", 0): 1}, ("a", 0), ((("a", 0),),), 1, None, True, MILL,
        ):
            self.refuse(MILL_PARTS, "deeds", deeds=deeds)
            self.refuse(MILL_PARTS, "deeds", deeds=deeds, arrows=())

    def test_owner_is_one_of_the_people(self):
        for people in (1, 2, 3):
            looks = (((),),) * people
            for owner in range(-1, 5):
                if 0 <= owner < people:
                    self.accept(BARE_PARTS, people=people, looks=looks, deeds=(("a", owner),))
                else:
                    self.refuse(BARE_PARTS, "deeds", people=people, looks=looks, deeds=(("a", owner),))

    def test_start(self):
        for start in ((0,), (1, 1), (3, 2, 1), (-50,), (50, 0, -50), (BIG, -BIG, 0)):
            self.accept(BARE_PARTS, start=start)
        for start in (
            (), (0, 0, 0, 0), (0,) * 5, [0], [], (True,), (0, False), (0, 0, True), ("0",), ("",), (None,),
            ((0,),), ([0],), (0, (0,)), 0, "0", None, {}, {0: 0}, MILL, True,
        ):
            self.refuse(BARE_PARTS, "start", start=start)

    def test_places(self):
        for places in (1, 2, 3):
            self.accept(BARE_PARTS, places=places, looks=(((),) * places,))
        for places in (0, 4, -1, 5, BIG, -BIG, True, False, "1", None, (1,), [1], (), {}, MILL):
            self.refuse(BARE_PARTS, "places", places=places)
            self.refuse(FULL_PARTS, "places", places=places)

    def test_ends(self):
        for places in (1, 2, 3):
            looks = (((),) * places,)
            for ends in ((), (0,), (1,), (2,), (0, 1), (0, 2), (1, 2), (0, 1, 2)):
                if max((0, *ends)) < places:
                    self.accept(BARE_PARTS, places=places, looks=looks, ends=ends)
                else:
                    self.refuse(BARE_PARTS, "ends", places=places, looks=looks, ends=ends)

    def test_wrong_ends(self):
        for ends in (
            (3,), (-1,), (0, 3), (-1, 0), (1, 0), (0, 0), (2, 2), (0, 1, 1), (0, 2, 1), (2, 1, 0), (0, 1, 2, 2),
            (0, 1, 2, 3), (BIG,), (True,), (False,), (0, True), [0], [], ((0,),), ([],), ("0",), (None,), ((),),
            0, "", "0", None, {}, {0: 0}, True, False, MILL, (MILL,),
        ):
            self.refuse(FULL_PARTS, "ends", ends=ends)

    def test_logs(self):
        for logs in (0, 1, 2):
            self.accept(BARE_PARTS, logs=logs)
        for logs in (3, -1, 4, BIG, -BIG, True, False, "0", "", None, (), (0,), [], {}, MILL):
            self.refuse(BARE_PARTS, "logs", logs=logs)
            self.refuse(MILL_PARTS, "logs", logs=logs)


class Arrows(HouseCase):
    def test_ranges(self):
        form = (0, 1)
        for places in (1, 2, 3):
            looks = (((),) * places,)
            for source in range(-1, 5):
                for target in range(-1, 5):
                    arrow = (source, "a", target, (form,), ())
                    if 0 <= source < places and 0 <= target < places:
                        self.accept(BARE_PARTS, places=places, looks=looks, arrows=(arrow,))
                    else:
                        self.refuse(BARE_PARTS, arrow, places=places, looks=looks, arrows=(arrow,))

    def test_deed_of_the_house(self):
        for letter in "abcdefghijklmnopqrstuvwxyz":
            arrow = (0, letter, 0, ((0, 1),), ())
            deeds = (("b", 0), ("k", 0), ("z", 0))
            if letter in "bkz":
                self.accept(BARE_PARTS, deeds=deeds, arrows=(arrow,))
            else:
                self.refuse(BARE_PARTS, arrow, deeds=deeds, arrows=(arrow,))
        for other in ("", "bk", "bkz", "B", " ", "b ", None, 1, ("b",), ["b"], ("b", 0), {}):
            arrow = (0, other, 0, ((0, 1),), ())
            self.refuse(BARE_PARTS, arrow, deeds=deeds, arrows=(arrow,))

    def test_forms(self):
        for count in (1, 2, 3):
            start = (0,) * count
            for many in range(5):
                for length in range(6):
                    arrow = (0, "a", 0, ((2,) * length,) * many, ())
                    if many == count and (length == count + 1):
                        self.accept(BARE_PARTS, start=start, arrows=(arrow,))
                    else:
                        self.refuse(BARE_PARTS, arrow, start=start, arrows=(arrow,))

    def test_one_form_of_another_length(self):
        for at in range(3):
            for length in (0, 1, 2, 3, 5):
                forms = [(1, 2, 3, 4)] * 3
                forms[at] = (1,) * length
                arrow = (0, "a", 0, tuple(forms), ())
                self.refuse(BARE_PARTS, arrow, start=(1, 2, 3), arrows=(arrow,))

    def test_marks(self):
        signs = ("a", "m", "z", "")
        for logs in (0, 1, 2):
            for marks in (
                (), *[(one,) for one in signs], *[(one, two) for one in signs for two in signs], ("a", "a", "a"),
            ):
                arrow = (0, "a", 0, ((0, 1),), marks)
                if len(marks) == logs:
                    self.accept(BARE_PARTS, logs=logs, arrows=(arrow,))
                else:
                    self.refuse(BARE_PARTS, arrow, logs=logs, arrows=(arrow,))

    def test_wrong_marks(self):
        for mark in ("A", "ab", "-", ".", "1", " ", "`", "{", "\n", None, 0, False, (), ("a",), [], [""], MILL):
            for marks in ((mark, ""), ("", mark), ("x", mark), (mark, "x"), (mark, mark)):
                arrow = (0, "a", 0, ((0, 1),), marks)
                self.refuse(MILL_PARTS, arrow, arrows=(arrow,))
        for marks in ("", "xy", "x", ["x", "y"], {}, {"x": 1, "y": 2}, None, 2, (("x", "y"),)):
            arrow = (0, "a", 0, ((0, 1),), marks)
            self.refuse(MILL_PARTS, arrow, arrows=(arrow,))

    def test_wrong_items(self):
        right = MILL_PARTS["arrows"][0]
        for item in any_values() + [(), right[:4], right + ("x",), list(right), (right,), "0a0", {right: 1}]:
            for arrows, at in (((item,), 0), ((right, item), 1), ((item, right), 0), ((right, right, item), 2)):
                self.refuse_item(MILL_PARTS, "arrows", arrows, at)

    def test_first_of_several_wrong_items(self):
        right = MILL_PARTS["arrows"][0]
        wrong, further = (1, "a", 0, ((1, -1),), ("x", "x")), (0, "c", 0, ((1, -1),), ("x", "x"))
        self.refuse_item(MILL_PARTS, "arrows", (wrong, further), 0)
        self.refuse_item(MILL_PARTS, "arrows", (further, wrong), 0)
        self.refuse_item(MILL_PARTS, "arrows", (right, wrong, further), 1)
        self.refuse_item(MILL_PARTS, "arrows", (right, further, right, wrong, None), 1)

    def test_wrong_item_ahead_of_wrong_order(self):
        first, second = MILL_PARTS["arrows"]
        for item in (None, (), (0, "c", 0, ((1, -1),), ("x", "x")), True):
            self.refuse_item(MILL_PARTS, "arrows", (second, first, item), 2)
            self.refuse_item(MILL_PARTS, "arrows", (first, first, item), 2)
            self.refuse_item(MILL_PARTS, "arrows", (item, first, first), 0)

    def test_no_tuple(self):
        right = MILL_PARTS["arrows"]
        for arrows in (list(right), [], {}, "", None, 0, True, MILL, dict.fromkeys(right)):
            self.refuse(MILL_PARTS, "arrows", arrows=arrows)

    def test_order(self):
        arrows = FULL_PARTS["arrows"]
        for at in range(len(arrows) - 1):
            exchanged = arrows[:at] + (arrows[at + 1], arrows[at]) + arrows[at + 2:]
            self.refuse(FULL_PARTS, "arrows", arrows=exchanged, tests=())
        self.refuse(FULL_PARTS, "arrows", arrows=arrows[::-1], tests=())
        for at in range(len(arrows)):
            self.accept(FULL_PARTS, arrows=arrows[:at] + arrows[at + 1:], tests=())
            self.refuse(FULL_PARTS, "arrows", arrows=arrows[:at + 1] + arrows[at:], tests=())

    def test_one_source_and_deed(self):
        first = (0, "a", 0, ((0, 1),), ("", ""))
        for second in (
            first, (0, "a", 1, ((0, 1),), ("", "")), (0, "a", 0, ((0, 2),), ("", "")),
            (0, "a", 0, ((0, 1),), ("", "x")),
        ):
            for arrows in ((first, second), (second, first)):
                self.refuse(MILL_PARTS, "arrows", arrows=arrows, places=2, looks=((((0, 1),), ()), ((), ())))

    def test_order_is_by_source_then_deed(self):
        form = ((0, 1, 0), (0, 0, 1))
        right = ((0, "z", 0, form, ("",)), (1, "c", 0, form, ("",)))
        self.accept(YARD_PARTS, arrows=right, tests=())
        self.refuse(YARD_PARTS, "arrows", arrows=right[::-1], tests=())
        right = ((0, "c", 1, form, ("z",)), (0, "f", 0, form, ("",)))
        self.accept(YARD_PARTS, arrows=right, tests=())
        self.refuse(YARD_PARTS, "arrows", arrows=right[::-1], tests=())


class Tests(HouseCase):
    def test_bounds(self):
        for low, high in ((0, 0), (-1, 1), (5, 5), (-BIG, BIG), (BIG, BIG), (-7, -7), (-1001, 1001)):
            self.accept(YARD_PARTS, tests=((0, "z", (0, 1, 1), low, high),))
        for low, high in ((1, 0), (0, -1), (BIG, BIG - 1), (-6, -7), (BIG, -BIG)):
            test = (0, "z", (0, 1, 1), low, high)
            self.refuse(YARD_PARTS, test, tests=(test,))

    def test_wrong_bounds(self):
        for wrong in (True, False, None, "0", "", (), (0,), [], {}, MILL):
            for low, high in ((wrong, 5), (-5, wrong), (wrong, wrong)):
                test = (0, "z", (0, 1, 1), low, high)
                self.refuse(YARD_PARTS, test, tests=(test,))

    def test_arrow_is_there(self):
        there = [arrow[:2] for arrow in YARD_PARTS["arrows"]]
        for source in range(-1, 4):
            for deed in ("a", "c", "f", "z", "", "cf", "C", None, 0, ("c",), ["c"]):
                test = (source, deed, (0, 1, 1), 0, 1)
                if (source, deed) in there:
                    self.accept(YARD_PARTS, tests=(test,))
                else:
                    self.refuse(YARD_PARTS, test, tests=(test,))

    def test_without_arrows(self):
        for test in YARD_PARTS["tests"]:
            self.refuse(YARD_PARTS, test, arrows=(), tests=(test,))
        self.refuse(YARD_PARTS, YARD_PARTS["tests"][0], arrows=())

    def test_bool_source(self):
        for source in (True, False):
            for letter in "cfz":
                test = (source, letter, (0, 1, 1), 0, 1)
                self.refuse_item(YARD_PARTS, "tests", (test,), 0)

    def test_form(self):
        for count in (1, 2, 3):
            arrow = (0, "a", 0, ((0,) * (count + 1),) * count, ())
            for length in range(6):
                test = (0, "a", (1,) * length, 0, 1)
                if length == count + 1:
                    self.accept(BARE_PARTS, start=(0,) * count, arrows=(arrow,), tests=(test,))
                else:
                    self.refuse(BARE_PARTS, test, start=(0,) * count, arrows=(arrow,), tests=(test,))

    def test_several_of_one_arrow(self):
        tests = tuple(sorted((1, "c", (0, 1, k), low, 9) for k in range(-3, 4) for low in (-2, 1)))
        self.accept(YARD_PARTS, tests=tests)
        self.accept(YARD_PARTS, tests=((1, "c", (0, 1, 1), 0, 5), (1, "c", (0, 1, 1), 0, 6)))
        self.accept(YARD_PARTS, tests=((1, "c", (0, 1, 1), 0, 6), (1, "c", (0, 1, 1), 1, 5)))

    def test_wrong_items(self):
        right = YARD_PARTS["tests"][0]
        for item in any_values() + [(), right[:4], right + (0,), list(right), (right,), {right: 1}]:
            for tests, at in (((item,), 0), ((right, item), 1), ((item, right), 0), ((right, right, item), 2)):
                self.refuse_item(YARD_PARTS, "tests", tests, at)

    def test_first_of_several_wrong_items(self):
        right = YARD_PARTS["tests"][0]
        wrong, lone = (0, "z", (0, 1, 1), 1, 0), (0, "f", (0, 1, 1), 0, 1)
        self.refuse_item(YARD_PARTS, "tests", (wrong, lone), 0)
        self.refuse_item(YARD_PARTS, "tests", (lone, wrong), 0)
        self.refuse_item(YARD_PARTS, "tests", (right, lone, wrong), 1)
        self.refuse_item(YARD_PARTS, "tests", (right, wrong, None, lone), 1)

    def test_wrong_item_ahead_of_wrong_order(self):
        first, second, third = YARD_PARTS["tests"]
        for item in (None, (), (0, "f", (0, 1, 1), 0, 1), (0, "z", (0, 1, 1), 1, 0)):
            self.refuse_item(YARD_PARTS, "tests", (second, first, item), 2)
            self.refuse_item(YARD_PARTS, "tests", (third, third, item), 2)

    def test_no_tuple(self):
        for tests in (list(YARD_PARTS["tests"]), [], {}, "", None, 0, False, MILL):
            self.refuse(YARD_PARTS, "tests", tests=tests)
            self.refuse(BARE_PARTS, "tests", tests=tests)

    def test_order(self):
        tests = FULL_PARTS["tests"]
        for at in range(len(tests) - 1):
            exchanged = tests[:at] + (tests[at + 1], tests[at]) + tests[at + 2:]
            self.refuse(FULL_PARTS, "tests", tests=exchanged)
        self.refuse(FULL_PARTS, "tests", tests=tests[::-1])
        for at in range(len(tests)):
            self.accept(FULL_PARTS, tests=tests[:at] + tests[at + 1:])
            self.refuse(FULL_PARTS, "tests", tests=tests[:at + 1] + tests[at:])

    def test_order_hangs_on_all_of_a_test(self):
        for first, second in (
            ((0, "z", (0, 1, 1), 0, 5), (0, "z", (0, 1, 2), 0, 5)),
            ((0, "z", (0, 1, 1), -9, 5), (0, "z", (0, 1, 1), 0, 5)),
            ((0, "z", (0, 1, 1), 0, 5), (0, "z", (0, 1, 1), 0, 15)),
            ((0, "c", (0, 1, 1), 0, 5), (0, "z", (0, 1, 1), 0, 5)),
            ((0, "z", (0, 1, 1), 0, 5), (1, "c", (0, 1, 1), 0, 5)),
        ):
            self.accept(YARD_PARTS, tests=(first, second))
            self.refuse(YARD_PARTS, "tests", tests=(second, first))


class Looks(HouseCase):
    def test_numbers_of_people_and_places(self):
        for people in (1, 2, 3):
            for places in (1, 2, 3):
                for many in range(5):
                    for length in range(5):
                        looks = (((),) * length,) * many
                        others = {"people": people, "places": places, "looks": looks}
                        if (many, length) == (people, places):
                            self.accept(BARE_PARTS, **others)
                        else:
                            self.refuse(BARE_PARTS, "looks", **others)

    def test_one_row_of_another_length(self):
        for at in range(3):
            for length in (0, 1, 2, 4):
                rows = [((),) * 3] * 3
                rows[at] = ((),) * length
                self.refuse(FULL_PARTS, "looks", looks=tuple(rows))

    def test_any_number_of_forms_in_any_order(self):
        one, other = (0, 1), (-3, 2)
        for forms in ((one,), (one, other), (other, one), (one, one), (one, other, one), (one,) * 9):
            self.accept(BARE_PARTS, looks=((forms,),))

    def test_wrong_forms(self):
        for form in ((), (1,), (1, 2, 3), [0, 1], (True, 1), (0, False), ("0", "1"), None, 0, "", "01", ((0, 1),)):
            for forms in ((form,), ((0, 1), form), (form, (0, 1))):
                self.refuse(BARE_PARTS, "looks", looks=((forms,),))
                self.refuse(MILL_PARTS, "looks", looks=((forms,), ((),)))
                self.refuse(MILL_PARTS, "looks", looks=(((),), (forms,)))

    def test_wrong_kinds(self):
        for looks in (
            [((),)], ([()],), (([],),), (({},),), (("",),), ((None,),), ((0,),), ("",), (None,), ((),), (), "",
            None, 0, True, {}, ((((0, 1),),),) * 2, ((((0, 1),), ()),), (((((0, 1),),),),), MILL, (MILL,), ((MILL,),),
        ):
            self.refuse(BARE_PARTS, "looks", looks=looks)

    def test_forms_have_the_length_of_all_registers(self):
        for count in (1, 2, 3):
            for length in range(6):
                looks = ((((2,) * length,),),)
                if length == count + 1:
                    self.accept(BARE_PARTS, start=(0,) * count, looks=looks)
                else:
                    self.refuse(BARE_PARTS, "looks", start=(0,) * count, looks=looks)


class SeveralWrong(HouseCase):
    def test_each_two(self):
        for parts in ALL_PARTS:
            for at, first in enumerate(PARTS):
                for second in PARTS[at + 1:]:
                    self.refuse(parts, first, **{first: WRONG[first], second: WRONG[second]})

    def test_all_behind_one(self):
        for parts in ALL_PARTS:
            for at, first in enumerate(PARTS):
                others = {part: WRONG[part] for part in PARTS[at:]}
                self.refuse(parts, first, **others)
                others = {part: None for part in PARTS[at:]}
                self.refuse(parts, first, **others)

    def test_wrong_item_of_arrows_ahead_of_tests_and_looks(self):
        arrow = (0, "a", 1, ((1, -1),), ("x", "x"))
        self.refuse(MILL_PARTS, arrow, arrows=(arrow,), tests=None, looks=None)
        self.refuse(MILL_PARTS, "arrows", arrows=MILL_PARTS["arrows"][::-1], tests=(None,), looks=())

    def test_wrong_item_of_tests_ahead_of_looks(self):
        test = (0, "z", (0, 1, 1), 1, 0)
        self.refuse(YARD_PARTS, test, tests=(test,), looks=None)
        self.refuse(YARD_PARTS, "tests", tests=YARD_PARTS["tests"][::-1], looks=None)

    def test_parts_of_unlike_houses(self):
        self.refuse({**YARD_PARTS, "start": (1,)}, YARD_PARTS["arrows"][0])
        self.refuse({**YARD_PARTS, "start": (1,)}, YARD_PARTS["tests"][0], arrows=(), looks=None)
        self.refuse({**YARD_PARTS, "start": (1,)}, "looks", arrows=(), tests=())
        self.refuse({**YARD_PARTS, "logs": 2}, YARD_PARTS["arrows"][0])
        self.refuse({**YARD_PARTS, "places": 1}, "ends")
        self.refuse({**YARD_PARTS, "places": 1, "ends": ()}, YARD_PARTS["arrows"][0])
        self.refuse({**YARD_PARTS, "people": 1}, "deeds")
        self.refuse({**YARD_PARTS, "people": 3}, "looks")

    def test_error_is_a_house_error(self):
        with self.assertRaises(HouseError):
            made(MILL_PARTS, people=7)


class ManyItems(HouseCase):
    def test_long_values(self):
        long = (0,) * 19000
        self.refuse(MILL_PARTS, "start", start=long)
        self.refuse(MILL_PARTS, "ends", ends=long)
        self.refuse(MILL_PARTS, 0, arrows=long)
        self.refuse(MILL_PARTS, "looks", looks=long)
        self.refuse(MILL_PARTS, "deeds", deeds=(("a", 0),) * 6000)
        self.refuse(MILL_PARTS, "arrows", arrows=MILL_PARTS["arrows"] * 900)
        self.accept(BARE_PARTS, looks=((((0, 1),) * 6000,),))

    def test_letters_of_full_house(self):
        self.assertEqual(tuple(letter for letter, _ in FULL_PARTS["deeds"]), tuple(FULL_LETTERS))


if __name__ == "__main__":
    unittest.main()
