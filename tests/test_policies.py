"""Policies: their parts, who hears whom, texts."""

import copy
import itertools
import unittest

from loghouse import policies
from loghouse.errors import BadPolicy, BadText, OtherPeople
from loghouse.policies import Policy
from tests.altering import altered
from tests.hearing import all_pairs, all_policies
from tests.listed import check_methods
from tests.samples import MILL, any_values

ALL = tuple(Policy(people, pairs) for people in (1, 2, 3) for pairs in all_policies(people))
CHAIN = Policy(3, ((0, 1), (1, 2)))
TEXT = "people 3\nhears 0 1\nhears 1 2"


class Listed(unittest.TestCase):
    def test_methods(self):
        check_methods(self, Policy, {
            "__init__": "people pairs", "__len__": "", "hearers": "person", "__or__": "other", "__eq__": "other",
            "__str__": "", "read": "text",
        })
        self.assertEqual(Policy.__module__, policies.__name__)
        self.assertIs(Policy.__base__, object)


class Parts(unittest.TestCase):
    def refused(self, part, people, pairs):
        with self.assertRaises(BadPolicy) as caught:
            Policy(people, pairs)
        self.assertEqual(caught.exception.part, part)

    def test_attributes(self):
        for people in (1, 2, 3):
            for pairs in all_policies(people):
                policy = Policy(people, pairs)
                self.assertEqual((policy.people, policy.pairs), (people, pairs))
                self.assertEqual(len(policy), len(pairs))
        policy = Policy(pairs=((1, 0),), people=2)
        self.assertEqual((policy.people, policy.pairs), (2, ((1, 0),)))

    def test_people(self):
        for people in any_values() + [0, 4, -1, True, False, "1", None, (1,), 10 ** 39]:
            for pairs in ((), ((0, 1),), None, [], ((0, 0),)):
                self.refused("people", people, pairs)

    def test_pairs(self):
        for pairs in any_values() + [
            ((0, 0),), ((0, 1), (0, 1)), ((1, 0), (0, 1)), ((0, 2),), ((2, 0),), ((-1, 0),), ((0, -1),), [(0, 1)], ([0, 1],),
            ((0,),), ((0, 1, 1),), (0, 1), ((False, 1),), ((0, True),), ((0, None),), (("0", "1"),), ((0, 1), None), ("01",),
            ((0, 1), (1, 0), (0, 1)), {(0, 1): True}, ((0, 1), (1, 1)),
        ]:
            if pairs != ():
                self.refused("pairs", 2, pairs)
        for pairs in (((0, 1),), ((0, 0),), ((1, 0),), None):
            self.refused("pairs", 1, pairs)

    def test_altered(self):
        right = set(all_policies(3))
        for pairs in (((0, 1), (1, 2)), ((0, 2), (1, 0), (2, 1)), all_pairs(3)):
            for thing in altered(pairs):
                known = thing in right and all(type(item) is int for pair in thing for item in pair)\
                    if type(thing) is tuple and "[" not in repr(thing) and "{" not in repr(thing) else False
                if known:
                    self.assertEqual(Policy(3, thing).pairs, thing)
                else:
                    self.refused("pairs", 3, thing)

    def test_arguments_stay(self):
        pairs = [[0, 1], {"a": 1}]
        kept = copy.deepcopy(pairs)
        self.refused("pairs", 2, pairs)
        self.assertEqual(pairs, kept)


class Hearers(unittest.TestCase):
    def test_all(self):
        for policy in ALL:
            for person in range(policy.people):
                wanted = {person} | {hearer for heard, hearer in policy.pairs if heard == person}
                self.assertEqual(policy.hearers(person), tuple(sorted(wanted)))

    def test_known(self):
        self.assertEqual(CHAIN.hearers(0), (0, 1))
        self.assertEqual(CHAIN.hearers(1), (1, 2))
        self.assertEqual(CHAIN.hearers(person=2), (2,))
        self.assertEqual(Policy(3, ((2, 0), (2, 1))).hearers(2), (0, 1, 2))


class Both(unittest.TestCase):
    def test_all(self):
        for one, other in itertools.product(ALL, repeat=2):
            if one.people != other.people:
                with self.assertRaises(OtherPeople):
                    one | other
                continue
            pairs = (one.pairs, other.pairs)
            both = one | other
            self.assertIsInstance(both, Policy)
            self.assertEqual(both.people, one.people)
            self.assertEqual(both.pairs, tuple(sorted(set(one.pairs) | set(other.pairs))))
            self.assertEqual((one.pairs, other.pairs), pairs)


class Equal(unittest.TestCase):
    def test_policies(self):
        for one, other in itertools.product(ALL, repeat=2):
            equal = (one.people, one.pairs) == (other.people, other.pairs)
            self.assertIs(one == other, equal)
            self.assertIs(one != other, not equal)
        self.assertIs(CHAIN == Policy(3, ((0, 1), (1, 2))), True)
        self.assertIs(Policy(1, ()) == Policy(2, ()), False)

    def test_other_values(self):
        for thing in any_values() + [3, ((0, 1), (1, 2)), (3, ((0, 1), (1, 2))), TEXT, MILL]:
            self.assertIs(CHAIN == thing, False)
            self.assertIs(thing == CHAIN, False)


class Texts(unittest.TestCase):
    def test_there_and_back(self):
        for policy in ALL:
            self.assertEqual(Policy.read(str(policy)), policy)

    def test_known(self):
        self.assertEqual(str(CHAIN), TEXT)
        self.assertEqual(str(Policy(1, ())), "people 1")
        self.assertEqual(Policy.read(text=TEXT), CHAIN)

    def refused(self, line, text):
        with self.assertRaises(BadText) as caught:
            Policy.read(text)
        self.assertEqual(caught.exception.line, line, text)

    def test_no_strings(self):
        for thing in any_values() + [CHAIN, 3, b"people 1", ["people 1"]]:
            if not isinstance(thing, str):
                self.refused(0, thing)

    def test_first_line(self):
        for line in (
            "", " ", "people", "people ", "people 0", "people 4", "people -1", "people 01", "people +1", "people 1 ",
            " people 1", "people  1", "people 1 2", "People 1", "people x", "people 1.0", "hears 0 1", "people\t1",
            "people " + "9" * 40, "people " + "9" * 41, "people2", "deed a 0",
        ):
            for rest in ("", "\nhears 0 1", "\nhears 0 0", "\n"):
                self.refused(1, line + rest)

    def test_further_lines(self):
        for line in (
            "", " ", "hears", "hears 0", "hears 0 1 ", "hears  0 1", " hears 0 1", "hears 0 1 2", "hears 0 0", "hears 0 3",
            "hears 3 0", "hears -1 0", "hears 00 1", "hears 0 01", "hears +0 1", "Hears 0 1", "hear 0 1", "people 3",
            "hears 0,1", "hears a b", "hears 0 -0", "hears 0 " + "1" * 41, "look 0 1 0,1",
        ):
            self.refused(2, "people 3\n" + line)
            self.refused(3, "people 3\nhears 0 1\n" + line)
            self.refused(4, TEXT + "\n" + line)
            self.refused(3, "people 3\nhears 0 1\n" + line + "\nhears 0 0")

    def test_order(self):
        self.refused(3, "people 3\nhears 1 2\nhears 0 1")
        self.refused(3, "people 3\nhears 0 1\nhears 0 1")
        self.refused(4, "people 3\nhears 0 1\nhears 1 0\nhears 0 2")
        self.refused(2, "people 1\nhears 0 1")
        self.refused(3, "people 2\nhears 0 1\nhears 1 2")

    def test_line_feeds(self):
        self.refused(2, "people 3\n")
        self.refused(1, "\npeople 3")
        self.refused(4, TEXT + "\n")
        self.refused(2, "people 3\n\nhears 0 1")
        self.refused(1, "people 3\r\nhears 0 1")

    def test_altered_texts(self):
        """What is read has just this text."""
        for at in range(len(TEXT)):
            for other in (TEXT[:at] + TEXT[at + 1:], TEXT[:at] + "2" + TEXT[at + 1:], TEXT[:at] + "0" + TEXT[at:]):
                try:
                    self.assertEqual(str(Policy.read(other)), other)
                except BadText as error:
                    self.assertIn(error.line, (1, 2, 3, 4))


if __name__ == "__main__":
    unittest.main()
