"""Repairs: least bars, least blots, least additions."""

import copy
import itertools
import time
import unittest

from loghouse import repairs as module
from loghouse.errors import BadQuestion, NoTape, OtherPeople
from loghouse.floors import Floor
from loghouse.hearsay import respects
from loghouse.houses import House
from loghouse.lots import least_lots
from loghouse.policies import Policy
from loghouse.questions import does_answer, is_fixed
from loghouse.repairs import least_additions, least_bars, least_blots
from loghouse.tapes import marks_on
from loghouse.values import bounds_hold, judge_bounds
from tests import answering, hearing
from tests.asks import DID, several
from tests.crowds import ALONE, CARRIED, GREAT, LOCKED, RACE
from tests.hearing import all_pairs, all_policies
from tests.listed import check_functions
from tests.samples import BARE, MILL, MILL_PARTS, any_values, attributes, made, random_parts
from tests.test_bounds_soon import LONGER, PLACES, SOON, TOLD
from tests.test_hearsay import FLOORS as CROWDS
from tests.test_tapes import WRONG_NAMES
from tests.yards import BOUNDED, CHAIN, HELD, MIRRORS, QUEUE, SHIFTED, UNBOUNDED, bounded_house, one_person

FLOORS = tuple(map(Floor, (MILL, BARE, QUEUE) + tuple(
    house for house in (bounded_house(seed, people=2, logs=2) for seed in range(50))
    if 2 <= len(Floor(house).useful) < 6
)))
FLOOR = FLOORS[0]


def lots(letters):
    for count in range(len(letters) + 1):
        yield from itertools.combinations(letters, count)


def least(found):
    """Those lots that have no other one of them within."""
    return [lot for lot in found if not any(set(other) < set(lot) for other in found)]


class Listed(unittest.TestCase):
    def test_functions(self):
        check_functions(self, module, {
            "least_bars": "house", "least_blots": "floor tape question", "least_additions": "floor policy",
        })


class Lots(unittest.TestCase):
    def test_all_kinds(self):
        """Whatever the least lots are, just these are found; a kind is told by some lots of four items."""
        items = ("a", "b", "c", "d")
        every = [lot for lot in lots(items)]
        for begun in itertools.chain(lots(every[:9]), itertools.combinations(every, 3)):
            wanted = tuple(sorted(least(begun)))
            found = least_lots(items, lambda lot: any(set(other) <= set(lot) for other in begun))
            self.assertEqual(found, wanted)

    def test_few_are_asked_for(self):
        asked = []

        def is_kind(lot):
            asked.append(lot)
            return set("gi") <= set(lot) or "c" in lot

        self.assertEqual(least_lots(tuple("abcdefghijklmno"), is_kind), (("c",), ("g", "i")))
        self.assertLess(len(asked), 100)


class LeastBars(unittest.TestCase):
    def check(self, house):
        letters = [letter for letter, _ in house.deeds]
        found = ["".join(lot) for lot in lots(letters) if judge_bounds(house.barred("".join(lot)))[0] == "within"]
        bars = least_bars(house)
        self.assertEqual(bars, tuple(sorted(least(found))), str(house))
        return bars

    def test_named_houses(self):
        for house in UNBOUNDED + SOON:
            self.assertNotIn("", self.check(house))

    def test_random_houses(self):
        sizes = set()
        for seed in range(60):
            for bar in self.check(House(**random_parts(seed))):
                sizes.add(len(bar))
        self.assertLessEqual({0, 1, 2}, sizes)

    def test_within_bounds(self):
        for house in (MILL, BARE) + BOUNDED:
            self.assertEqual(least_bars(house), ("",))

    def test_known(self):
        self.assertEqual(least_bars(MILL), ("",))
        self.assertEqual(least_bars(MIRRORS), ("a", "b"))
        self.assertEqual(least_bars(CHAIN), ("a",))
        self.assertEqual(least_bars(HELD), ("ab",))
        self.assertEqual(least_bars(SHIFTED), ("a", "b"))
        self.assertEqual(least_bars(house=TOLD[0]), ("m",))

    def test_several_rings(self):
        """Mirrors about unlike middles: any two of them make a ring, so all but those about one middle are barred."""
        def mirrors(middles):
            return one_person((0,), (0,), tuple(
                (0, "abcde"[at], 0, ((2 * middle, -1),), ()) for at, middle in enumerate(middles)
            ), (((0, 1),),), deeds="abcde"[:len(middles)])

        self.assertEqual(least_bars(mirrors((0, 1, 2))), ("ab", "ac", "bc"))
        self.assertEqual(least_bars(mirrors((0, 0, 1, 1, 2))), ("abcd", "abe", "cde"))
        self.assertEqual(least_bars(mirrors((3, 3, 3))), ("",))
        self.assertEqual(least_bars(mirrors((0, 0, 0, 0, 3))), ("abcd", "e"))

    def test_ring_through_places(self):
        self.assertEqual(least_bars(PLACES[0]), ("a",))
        self.assertEqual(least_bars(PLACES[3]), ("a", "c"))
        for house in LONGER:
            for bar in least_bars(house):
                paper = judge_bounds(house.barred(bar))
                self.assertEqual(paper[0], "within")
                self.assertIs(bounds_hold(house.barred(bar), paper), True)

    def test_what_is_left(self):
        kept = copy.deepcopy(attributes(MIRRORS))
        self.assertEqual(least_bars(MIRRORS), least_bars(MIRRORS))
        self.assertEqual(attributes(MIRRORS), kept)

    def test_soon(self):
        begin = time.process_time()
        for seed in range(60):
            least_bars(House(**random_parts(seed)))
        self.assertLess(time.process_time() - begin, 5)


class LeastBlots(unittest.TestCase):
    def check(self, floor, tape, question):
        letters = [mark for mark in marks_on(floor, tape)]
        found = []
        for lot in lots(letters):
            name = tape + "-" * bool(lot) + "".join(lot)
            if not answering.is_told(floor, (name,), question):
                found.append("".join(lot))
        blots = least_blots(floor, tape, question)
        self.assertEqual(blots, tuple(sorted(least(found))), (tape, question))
        return blots

    def test_all(self):
        sizes = set()
        for floor in FLOORS:
            for tape in ("deeds", "log0", "log1")[:1 + floor.house.logs]:
                for question in several(floor, 12):
                    sizes |= {len(blot) for blot in self.check(floor, tape, question)}
        self.assertLessEqual({0, 1, 2}, sizes)

    def test_known(self):
        self.assertEqual(least_blots(FLOOR, "log1", ("did", "log0", "x")), ("x",))
        self.assertEqual(least_blots(FLOOR, "log1", ("did", "deeds", "b")), ("y",))
        self.assertEqual(least_blots(FLOOR, "log0", ("did", "deeds", "b")), ("",))
        self.assertEqual(least_blots(FLOOR, "deeds", ("both", DID, ("did", "deeds", "b"))), ("a", "b"))
        self.assertEqual(least_blots(question=DID, tape="deeds", floor=FLOOR), ("a",))

    def test_fixed_questions(self):
        for floor in FLOORS:
            for question in several(floor, 25):
                if is_fixed(floor, question):
                    self.assertEqual(least_blots(floor, "deeds", question), ())

    def test_tapes_that_tell_nothing(self):
        for floor in FLOORS:
            for question in several(floor, 25):
                if not does_answer(floor, ("log0",) if floor.house.logs else ("deeds",), question):
                    self.assertEqual(least_blots(floor, "log0" if floor.house.logs else "deeds", question), ("",))

    def test_two_letters_together(self):
        """Either of two letters tells that there was a day of work; only without both nothing does."""
        floor = Floor(one_person((0,), (0,), (
            (0, "a", 1, ((0, 1),), ("x",)), (1, "a", 1, ((0, 1),), ("y",)), (1, "b", 0, ((0, 1),), ("z",)),
        ), ((), ()), logs=1))
        self.assertEqual(self.check(floor, "log0", ("did", "deeds", "a")), ("xz",))
        self.assertEqual(self.check(floor, "deeds", ("did", "log0", "x")), ("ab",))
        self.assertEqual(self.check(floor, "log0", ("did", "log0", "y")), ("y",))

    def test_fifteen_letters(self):
        letters = "abcdefghijklmno"
        floor = Floor(House(
            1, tuple((deed, 0) for deed in "abcde"), (0,), 3, (0,), 1,
            tuple((place, deed, (place + 1) % 3, ((0, 1),), (letters[5 * place + at],))
                  for place in range(3) for at, deed in enumerate("abcde")), (), (((), (), ()),),
        ))
        begin = time.process_time()
        found = least_blots(floor, "log0", ("did", "deeds", "a"))
        self.assertLess(time.process_time() - begin, 5)
        self.assertEqual(list(found), sorted(found))
        for blot in found:
            self.assertIs(does_answer(floor, (f"log0-{blot}",), ("did", "deeds", "a")), False)
            for at in range(len(blot)):
                fewer = blot[:at] + blot[at + 1:]
                self.assertIs(does_answer(floor, (f"log0-{fewer}" if fewer else "log0",), ("did", "deeds", "a")), True)

    def test_refused_tapes(self):
        for thing in WRONG_NAMES + tuple(any_values()) + (
            "deeds-a", "log0-x", "log1-xy", "sight0", "sight1", ("deeds",), ["deeds"],
        ):
            for question in (DID, None, thing):
                with self.assertRaises(NoTape) as caught:
                    least_blots(FLOOR, thing, question)
                self.assertIs(caught.exception.thing, thing)

    def test_refused_questions(self):
        for thing in any_values() + [("did", "log9", "x"), ("sees", 2, ()), "did deeds a"]:
            with self.assertRaises(BadQuestion) as caught:
                least_blots(FLOOR, "deeds", thing)
            self.assertIs(caught.exception.thing, thing)


class LeastAdditions(unittest.TestCase):
    def check(self, floor, policy):
        people = floor.house.people
        lacking = [pair for pair in all_pairs(people) if pair not in policy.pairs]
        found = []
        for lot in lots(lacking):
            pairs = tuple(sorted(policy.pairs + lot))
            if all(hearing.is_right(floor, triple) for triple in hearing.triples(floor, pairs)):
                found.append(lot)
        additions = least_additions(floor, policy)
        self.assertEqual(additions, tuple(sorted(least(found))))
        return additions

    def test_all(self):
        sizes = set()
        for floor in CROWDS[:20]:
            pairs = list(all_policies(floor.house.people))
            for policy in pairs[::max(1, len(pairs) // 5)]:
                for addition in self.check(floor, Policy(floor.house.people, policy)):
                    sizes.add(len(addition))
        self.assertLessEqual({0, 1, 2}, sizes)

    def test_known(self):
        carrying = Floor(CARRIED)
        self.assertEqual(least_additions(carrying, Policy(3, ())), (((0, 1), (1, 2)), ((0, 2), (1, 2))))
        self.assertEqual(least_additions(carrying, Policy(3, ((1, 2),))), (((0, 1),), ((0, 2),)))
        self.assertEqual(least_additions(Floor(LOCKED), Policy(2, ())), (((0, 1),),))
        self.assertEqual(least_additions(policy=Policy(3, ()), floor=Floor(RACE)), (((0, 2), (1, 2)),))

    def test_respected(self):
        self.assertEqual(least_additions(FLOOR, Policy(2, ())), ((),))
        for floor in CROWDS[:30]:
            everybody = Policy(floor.house.people, all_pairs(floor.house.people))
            self.assertEqual(least_additions(floor, everybody), ((),))
            for pairs in list(all_policies(floor.house.people))[::9]:
                policy = Policy(floor.house.people, pairs)
                if respects(floor, policy):
                    self.assertEqual(least_additions(floor, policy), ((),))
        self.assertEqual(least_additions(Floor(ALONE), Policy(1, ())), ((),))

    def test_sixty_stands(self):
        floor = Floor(GREAT)
        begin = time.process_time()
        for addition in least_additions(floor, Policy(3, ())):
            self.assertIs(respects(floor, Policy(3, addition)), True)
            for at in range(len(addition)):
                self.assertIs(respects(floor, Policy(3, addition[:at] + addition[at + 1:])), False)
        self.assertLess(time.process_time() - begin, 3)

    def test_arguments_stay(self):
        policy = Policy(3, ((1, 2),))
        least_additions(Floor(CARRIED), policy)
        self.assertEqual((policy.people, policy.pairs), (3, ((1, 2),)))

    def test_other_people(self):
        for people in (1, 3):
            with self.assertRaises(OtherPeople):
                least_additions(FLOOR, Policy(people, ()))

    def test_no_days(self):
        floor = Floor(made(MILL_PARTS, ends=()))
        self.assertEqual(least_additions(floor, Policy(2, ())), ((),))
        self.assertEqual(least_blots(floor, "deeds", DID), ())


if __name__ == "__main__":
    unittest.main()
