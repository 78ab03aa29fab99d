"""Forms and their values."""

import unittest

from loghouse import forms
from loghouse.forms import is_form, value_of
from tests.samples import any_values

BIG = 10 ** 39 + 7


class IsForm(unittest.TestCase):
    def test_forms(self):
        for count in range(1, 5):
            for form in ((0,) * (count + 1), tuple(range(-1, count)), (BIG,) + (-BIG,) * count):
                with self.subTest(count=count, form=form):
                    self.assertIs(is_form(count, form), True)

    def test_too_few_and_too_many_integers(self):
        for count in range(1, 5):
            for length in range(8):
                with self.subTest(count=count, length=length):
                    self.assertIs(is_form(count, (1,) * length), length == count + 1)

    def test_form_of_no_registers(self):
        self.assertIs(is_form(0, (5,)), True)
        self.assertIs(is_form(0, ()), False)
        self.assertIs(is_form(0, (5, 1)), False)

    def test_lists_are_none(self):
        self.assertIs(is_form(1, [0, 1]), False)
        self.assertIs(is_form(2, [0, 1, 2]), False)
        self.assertIs(is_form(1, ([0, 1],)), False)
        self.assertIs(is_form(1, (0, [1])), False)

    def test_bools_are_no_integers(self):
        for form in ((True, 1), (1, True), (False, 0), (0, False), (True, False)):
            self.assertIs(is_form(1, form), False)
        for at in range(4):
            form = tuple(at == k if at == k else 1 for k in range(4))
            self.assertIs(is_form(3, form), False, form)

    def test_other_items(self):
        for item in any_values():
            if isinstance(item, int) and not isinstance(item, bool):
                continue
            for form in ((0, item), (item, 0)):
                with self.subTest(form=form):
                    self.assertIs(is_form(1, form), False)

    def test_any_values(self):
        for thing in any_values() + [0, 1, "01", "0,1", {0: 1, 1: 2}, ((0, 1),)]:
            for count in (1, 2, 3):
                with self.subTest(thing=thing, count=count):
                    self.assertIs(is_form(count, thing), False)

    def test_many_items(self):
        self.assertIs(is_form(1, (0,) * 19000), False)
        self.assertIs(is_form(18999, (0,) * 19000), True)

    def test_names(self):
        self.assertIs(is_form(thing=(1, 2), count=1), True)
        self.assertIs(is_form(thing=(1, 2), count=2), False)

    def test_arguments_stay(self):
        thing = [0, [1], {"a": [2]}]
        is_form(2, thing)
        self.assertEqual(thing, [0, [1], {"a": [2]}])


class ValueOf(unittest.TestCase):
    def test_values(self):
        for form, values, value in (
            ((0, 1), (5,), 5),
            ((3, -1), (5,), -2),
            ((7, 0), (5,), 7),
            ((1, 2, 3), (10, 100), 321),
            ((-1, 2, 0, -3), (4, 9, 5), -8),
            ((0, 0, 0, 0), (4, 9, 5), 0),
            ((1, 0, 0, 0), (4, 9, 5), 1),
            ((0, 0, 0, 1), (4, 9, 5), 5),
        ):
            with self.subTest(form=form, values=values):
                self.assertEqual(value_of(form, values), value)
                self.assertIs(type(value_of(form, values)), int)

    def test_forty_digits(self):
        self.assertEqual(value_of((BIG, -BIG), (BIG,)), BIG - BIG * BIG)
        self.assertEqual(value_of((0, BIG, 1), (-BIG, 10 ** 40 - 1)), 10 ** 40 - 1 - BIG * BIG)
        self.assertEqual(value_of((1, 1), (10 ** 40 - 1,)), 10 ** 40)

    def test_no_registers(self):
        self.assertEqual(value_of((9,), ()), 9)

    def test_names(self):
        self.assertEqual(value_of(values=(2,), form=(1, 3)), 7)

    def test_defined_here(self):
        for function in (forms.is_form, forms.value_of):
            self.assertEqual(function.__module__, "loghouse.forms")


if __name__ == "__main__":
    unittest.main()
