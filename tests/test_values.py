"""What is looked at, what is led back, and where ways end."""

import copy
import itertools
import unittest

from loghouse import values
from loghouse.errors import NoArrow
from loghouse.values import end_of, led_back, looked_at, numbers_behind
from tests.listed import check_functions
from tests.samples import BARE, FULL, HOUSES, MILL, YARD, attributes, made, random_form, random_parts
from tests.samples import FULL_PARTS, YARD_PARTS, House, random
from tests.walking import done, letters, strings, value, way_state
from tests.yards import AWAY, BOUNDED, HELD, MIDDLE, UNBOUNDED

ALL = HOUSES + BOUNDED + UNBOUNDED + tuple(House(**random_parts(seed)) for seed in range(20))


class Listed(unittest.TestCase):
    def test_functions(self):
        check_functions(self, values, {
            "looked_at": "house place", "led_back": "house place deed form", "end_of": "house way",
            "numbers_behind": "house way", "judge_bounds": "house", "bounds_hold": "house thing",
            "is_bounded": "house", "value_behind": "house paper times", "rounds_beyond": "house paper bound",
        })


class LookedAt(unittest.TestCase):
    def test_mill(self):
        self.assertEqual(looked_at(MILL, 0), ((0, 1),))

    def test_nothing(self):
        self.assertEqual(looked_at(BARE, 0), ())

    def test_looks_by_people_then_tests(self):
        self.assertEqual(looked_at(YARD, 0), ((0, 1, 0), (4, 0, -1), (0, 1, 1)))
        self.assertEqual(looked_at(YARD, 1), ((0, 1, -1), (1, 0, 1), (1, 0, 2)))

    def test_only_tests(self):
        self.assertEqual(looked_at(HELD, 0), ((0, 1), (0, 1)))

    def test_equal_forms_as_often_as_they_stand(self):
        house = made(
            YARD_PARTS, looks=((((0, 1, 1), (0, 1, 1)), ()), (((0, 1, 1),), ())),
            tests=((0, "c", (0, 1, 1), 0, 0), (0, "z", (0, 1, 1), -10, 10), (0, "z", (0, 1, 1), -9, 10)),
        )
        self.assertEqual(looked_at(house, 0), ((0, 1, 1),) * 6)
        self.assertEqual(looked_at(house, 1), ())

    def test_order_of_looks_is_kept(self):
        house = made(YARD_PARTS, tests=(), looks=((((9, 0, 0), (1, 0, 0)), ()), (((5, 0, 0), (3, 0, 0)), ())))
        self.assertEqual(looked_at(house, 0), ((9, 0, 0), (1, 0, 0), (5, 0, 0), (3, 0, 0)))

    def test_many(self):
        for place in range(3):
            forms = tuple((person, place, 0, at) for person in range(3) for at in range(3))
            tests = tuple((0, 0, 1, low) for _ in "aemsz" for low in (-1, 1))
            self.assertEqual(looked_at(FULL, place), forms + tests)

    def test_tests_of_the_place_alone_in_their_order(self):
        for house in ALL:
            for place in range(house.places):
                tests = tuple(test[2] for test in house.tests if test[0] == place)
                looks = sum((row[place] for row in house.looks), ())
                self.assertEqual(looked_at(house, place), looks + tests)

    def test_by_name(self):
        self.assertEqual(looked_at(place=1, house=YARD), looked_at(YARD, 1))

    def test_house_stays(self):
        for house in ALL:
            ahead = copy.deepcopy(attributes(house))
            for place in range(house.places):
                looked_at(house, place)
            self.assertEqual(attributes(house), ahead)


class LedBack(unittest.TestCase):
    def test_mill(self):
        self.assertEqual(led_back(MILL, 0, "a", (0, 1)), (1, -1))
        self.assertEqual(led_back(MILL, 0, "b", (0, 1)), (0, 1))
        self.assertEqual(led_back(MILL, 0, "a", (5, 3)), (8, -3))

    def test_the_form_one_and_the_form_of_zeros(self):
        for house in ALL:
            zeros = (0,) * len(house.start)
            for arrow in house.arrows:
                self.assertEqual(led_back(house, arrow[0], arrow[1], (1,) + zeros), (1,) + zeros)
                self.assertEqual(led_back(house, arrow[0], arrow[1], (0,) + zeros), (0,) + zeros)

    def test_two_registers(self):
        self.assertEqual(led_back(YARD, 1, "c", (1, 2, 3)), (1, 3, 1))
        self.assertEqual(led_back(YARD, 0, "z", (1, 2, 3)), (11, 3, 2))

    def test_arrow_of_the_place(self):
        self.assertEqual(led_back(YARD, 0, "c", (0, 0, 1)), (-2, 0, 3))
        self.assertEqual(led_back(YARD, 1, "c", (0, 0, 1)), (0, 1, 1))

    def test_value_is_that_behind_the_deed(self):
        dice = random.Random(5)
        for house in ALL:
            count = len(house.start)
            for source, deed, *_ in house.arrows:
                for _ in range(3):
                    form = random_form(dice, count)
                    led = led_back(house, source, deed, form)
                    self.assertIs(type(led), tuple)
                    for numbers in itertools.product((0, 1, -7), repeat=count):
                        behind = done(house, (source, numbers), deed)[1]
                        self.assertEqual(value(led, numbers), value(form, behind))

    def test_great_integers(self):
        big = 10 ** 39
        self.assertEqual(led_back(MILL, 0, "a", (big, -big)), (0, big))

    def test_by_name(self):
        self.assertEqual(led_back(form=(0, 1), deed="a", place=0, house=MILL), (1, -1))


class Ways(unittest.TestCase):
    def test_empty_way(self):
        for house in ALL:
            self.assertEqual(end_of(house, ""), 0)
            self.assertEqual(numbers_behind(house, ""), house.start)

    def test_mill(self):
        self.assertEqual(end_of(MILL, "abab"), 0)
        self.assertEqual(numbers_behind(MILL, "aba"), (0,))
        self.assertEqual(numbers_behind(MILL, "ab"), (1,))

    def test_tests_are_not_asked(self):
        # No test of these arrows is kept with these registers.
        self.assertEqual(numbers_behind(HELD, "a" * 60), (60,))
        self.assertEqual(numbers_behind(HELD, "b" * 60), (-60,))
        self.assertEqual(end_of(YARD, "cc"), 0)
        self.assertEqual(numbers_behind(YARD, "cc"), (-34, 27))

    def test_all_registers_are_set_at_once(self):
        self.assertEqual(numbers_behind(MIDDLE, "b"), (5, 2))

    def test_all_strings(self):
        for house in ALL:
            for way in strings(house, 3):
                state = way_state(house, way)
                if state:
                    self.assertEqual((end_of(house, way), numbers_behind(house, way)), state)
                    self.assertIs(type(numbers_behind(house, way)), tuple)
                else:
                    self.check_no_arrow(house, way)

    def check_no_arrow(self, house, way):
        index = min(at for at in range(len(way)) if not way_state(house, way[:at + 1]))
        for function in (end_of, numbers_behind):
            with self.assertRaises(NoArrow) as caught:
                function(house, way)
            self.assertEqual(caught.exception.index, index)
            self.assertIs(type(caught.exception.index), int)

    def test_first_deed_that_no_arrow_takes(self):
        for way, index in (("f", 0), ("cz", 1), ("ff", 0), ("cffcf", 4), ("zzzfc", 3), ("c" * 59 + "z", 59)):
            with self.subTest(way=way):
                self.check_no_arrow(YARD, way)
                with self.assertRaises(NoArrow) as caught:
                    end_of(YARD, way)
                self.assertEqual(caught.exception.index, index)

    def test_house_without_arrows(self):
        for function in (end_of, numbers_behind):
            with self.assertRaises(NoArrow) as caught:
                function(BARE, "aa")
            self.assertEqual(caught.exception.index, 0)

    def test_sixty_deeds(self):
        self.assertEqual(numbers_behind(MILL, "a" * 59), (1,))
        self.assertEqual(numbers_behind(MILL, "a" * 60), (0,))
        self.assertEqual(numbers_behind(FULL, "a" * 60)[0], way_state(FULL, "a" * 60)[1][0])

    def test_by_name(self):
        self.assertEqual(end_of(way="a", house=AWAY), 0)
        self.assertEqual(numbers_behind(way="a", house=AWAY), (4,))

    def test_houses_stay(self):
        for house in ALL:
            ahead = copy.deepcopy(attributes(house))
            for way in [letter for letter in letters(house) if way_state(house, letter)]:
                self.assertEqual(numbers_behind(house, way), numbers_behind(house, way))
                self.assertEqual(end_of(house, way), end_of(house, way))
            self.assertEqual(attributes(house), ahead)


class Several(unittest.TestCase):
    def test_led_back_along_ways(self):
        """What is looked at behind a way is, led back deed by deed, what is there for the start values."""
        for house in ALL[:12]:
            for way in [way for way in strings(house, 3) if way_state(house, way)]:
                for form in looked_at(house, end_of(house, way)):
                    led = form
                    for at in range(len(way) - 1, -1, -1):
                        led = led_back(house, end_of(house, way[:at]), way[at], led)
                    self.assertEqual(value(led, house.start), value(form, numbers_behind(house, way)))

    def test_full_house(self):
        self.assertEqual(numbers_behind(House(**FULL_PARTS), "e"), (-120, 0, -130))
