"""What people are told by what they hear of tries: triples, papers, blocks, what may be known."""

import copy
import itertools
import unittest

from loghouse import hearsay as module
from loghouse.errors import BadTries, OtherPeople
from loghouse.floors import Floor
from loghouse.hearsay import blocks, hearsay, hearsay_holds, may_know, respects, rows_against, safe_tries
from loghouse.hearsay import stand_behind, tell_alike, tries_tape, triples
from loghouse.policies import Policy
from loghouse.tapes import written
from tests import hearing, walking
from tests.altering import altered
from tests.crowds import ALONE, CARRIED, GREAT, LOCKED, NAMED, RACE, RANDOM, TESTED
from tests.hearing import all_pairs, all_policies, hearsay_right
from tests.listed import check_functions
from tests.samples import MILL, any_values, attributes

FLOORS = tuple(map(Floor, NAMED)) + tuple(
    floor for floor in map(Floor, RANDOM) if 2 <= len(floor) < 9
)[::2]
MILLED, CARRYING, RACING, LOCKING, TESTING = FLOORS[0], FLOORS[2], FLOORS[3], FLOORS[4], FLOORS[5]


def policies(floor, count=9):
    """Some policies for a floor, among them the one without pairs and the one with all."""
    found = list(all_policies(floor.house.people))
    return [Policy(floor.house.people, pairs) for pairs in found[::max(1, len(found) // count)] + found[-1:]]


def cases(count=9):
    for floor in FLOORS:
        for policy in policies(floor, count):
            yield floor, policy


def groups(floor, policy, person, most):
    """All rows of at most so many tries, put together if they tell a person the same."""
    found = {}
    for row in hearing.tries(floor.house, most):
        found.setdefault(hearing.told(floor.house, policy.pairs, row)[person], []).append(row)
    return list(found.values())


def shortest_against(floor, policy, person, stands, most):
    """The least length of the longer one of two rows that tell a person the same, one of which leads to the stands."""
    best = None
    for group in groups(floor, policy, person, most):
        lengths = [min((len(row) for row in group if (hearing.stand_behind(floor, row) in stands) is inside), default=None)
                   for inside in (True, False)]
        if None not in lengths and (best is None or max(lengths) < best):
            best = max(lengths)
    return best


class Listed(unittest.TestCase):
    def test_functions(self):
        check_functions(self, module, {
            "stand_behind": "floor tries", "tries_tape": "floor tries person",
            "tell_alike": "floor policy tries other person", "triples": "floor policy", "respects": "floor policy",
            "hearsay": "floor policy", "hearsay_holds": "floor policy thing", "blocks": "floor policy person",
            "may_know": "floor policy person stands", "rows_against": "floor policy person stands",
            "safe_tries": "floor policy",
        })


class Tries(unittest.TestCase):
    def test_stand_behind(self):
        for floor in FLOORS:
            for row in hearing.tries(floor.house, 4):
                stand = stand_behind(floor, row)
                place, numbers = hearing.state_behind(floor.house, row)
                there = walking.behaviour(floor.house, (place, numbers))
                self.assertEqual(stand, hearing.stand_behind(floor, row))
                self.assertEqual(there, walking.behaviour(floor.house, walking.run_state(floor.house, floor.first_run(stand))))

    def test_empty_row(self):
        for floor in FLOORS:
            self.assertEqual(stand_behind(floor, ""), 0)
            self.assertEqual(len(tries_tape(floor, "", 0)), 1)

    def test_deeds_that_cannot_be_done(self):
        self.assertEqual(stand_behind(LOCKING, "bbb"), 0)
        self.assertEqual(stand_behind(LOCKING, "bab"), LOCKING.stand_of("ab"))
        self.assertEqual(stand_behind(TESTING, "bca"), TESTING.stand_of("a"))

    def test_tape_of_tries(self):
        for floor in FLOORS:
            for row in hearing.tries(floor.house, 4):
                for person in range(floor.house.people):
                    self.assertEqual(tries_tape(floor, row, person), hearing.tries_tape(floor.house, row, person))
                if walking.run_state(floor.house, row):
                    self.assertEqual(tries_tape(floor, row, 0), written(floor, "sight0", row))

    def test_tries_in_vain_on_the_tape(self):
        self.assertEqual(tries_tape(LOCKING, "bab", 1), ("0", "b:0", "b:1"))
        self.assertEqual(tries_tape(LOCKING, "bab", 0), ("-", "a:-"))
        self.assertEqual(tries_tape(LOCKING, "b" * 60, 1), ("0",) + ("b:0",) * 60)

    def test_tell_alike(self):
        for floor, policy in cases(5):
            rows = list(hearing.tries(floor.house, 3))[:18]
            for row, other in itertools.product(rows, repeat=2):
                for person in range(floor.house.people):
                    one, two = [hearing.told(floor.house, policy.pairs, tried)[person] for tried in (row, other)]
                    self.assertIs(tell_alike(floor, policy, row, other, person), one == two)

    def test_who_hears_whom(self):
        nothing, chain = Policy(3, ()), Policy(3, ((0, 1), (1, 2)))
        # The person 1 hears a; the person 2 hears of it only with what the person 1 tries behind it.
        for policy, row, other, alike in (
            (nothing, "abc", "c", (False, False, True)), (chain, "a", "", (False, False, True)),
            (chain, "ab", "b", (False, False, False)), (chain, "ba", "b", (False, False, True)),
            (chain, "ba", "ab", (True, False, False)), (chain, "bac", "bc", (False, False, True)),
            (nothing, "ab", "ba", (True, True, True)), (chain, "ac", "ca", (True, True, True)),
            (chain, "", "", (True, True, True)), (chain, "aab", "ab", (False, False, False)),
        ):
            self.assertEqual(tuple(tell_alike(CARRYING, policy, row, other, person) for person in range(3)), alike)

    def test_long_rows(self):
        """What is told by sixty tries, written down, would have more parts than can be counted."""
        everybody = Policy(3, all_pairs(3))
        row = "abc" * 20
        self.assertIs(tell_alike(CARRYING, everybody, row, row, 0), True)
        self.assertIs(tell_alike(CARRYING, everybody, row, "b" + row[1:], 2), False)
        chain = Policy(3, ((0, 1), (1, 2)))
        self.assertIs(tell_alike(CARRYING, chain, row + "a", row, 2), True)
        self.assertIs(tell_alike(CARRYING, chain, "a" * 59, "a" * 60, 1), False)

    def test_bad_tries(self):
        wrong = [thing for thing in any_values() if thing not in ("", "aa")] + ["d", "a b", "A", "ab\n", ["a"], ("a", "b"), b"ab", 0]
        policy = Policy(2, ())
        for thing in wrong:
            for call in (
                lambda: stand_behind(MILLED, thing), lambda: tries_tape(MILLED, thing, 0),
                lambda: tell_alike(MILLED, policy, thing, "a", 0), lambda: tell_alike(MILLED, policy, "a", thing, 0),
                lambda: tell_alike(MILLED, policy, thing, None, 1), lambda: tell_alike(MILLED, policy, thing, "xyz", 1),
            ):
                with self.assertRaises(BadTries) as caught:
                    call()
                self.assertIs(caught.exception.tries, thing)

    def test_by_name(self):
        self.assertEqual(stand_behind(tries="aab", floor=MILLED), 0)
        self.assertEqual(tries_tape(person=1, tries="aab", floor=MILLED), ("-", "b:-"))
        self.assertIs(tell_alike(person=1, other="b", tries="ab", policy=Policy(2, ()), floor=MILLED), True)


class Triples(unittest.TestCase):
    def test_all(self):
        for floor, policy in cases(16):
            self.assertEqual(triples(floor, policy), hearing.triples(floor, policy.pairs))

    def test_known(self):
        self.assertEqual(triples(MILLED, Policy(2, ())), (
            (0, 0, ()), (0, 0, (1,)), (0, 1, (0,)), (1, 0, (0,)), (1, 1, ()), (1, 1, (1,)),
        ))
        self.assertEqual(triples(MILLED, Policy(2, ((0, 1),))), ((0, 0, (1,)), (1, 1, (1,))))
        self.assertEqual(triples(MILLED, Policy(2, ((0, 1), (1, 0)))), ())
        self.assertEqual(triples(Floor(ALONE), Policy(1, ())), ())

    def test_sixty_stands(self):
        floor = Floor(GREAT)
        for pairs in ((), ((0, 1),), ((1, 2), (2, 0)), all_pairs(3)[:5], all_pairs(3)):
            self.assertEqual(triples(floor, Policy(3, pairs)), hearing.triples(floor, pairs))


class Respects(unittest.TestCase):
    def check(self, floor, policy):
        right = all(hearing.is_right(floor, triple) for triple in hearing.triples(floor, policy.pairs))
        self.assertIs(respects(floor, policy), right)
        paper = hearsay(floor, policy)
        self.assertEqual(paper[0], "kept" if right else "shown")
        self.assertTrue(hearsay_right(floor, policy.pairs, paper), paper)
        self.assertIs(hearsay_holds(floor, policy, paper), True)
        self.assertIs(safe_tries(floor, policy) is None, right)
        return right

    def test_all(self):
        found = [self.check(floor, policy) for floor, policy in cases(20)]
        self.assertIn(True, found)
        self.assertIn(False, found)

    def test_sixty_stands(self):
        floor = Floor(GREAT)
        for pairs in ((), ((0, 1), (1, 2)), all_pairs(3)[1:], all_pairs(3)):
            self.check(floor, Policy(3, pairs))

    def test_known(self):
        for pairs, right in (
            ((), False), (((0, 1),), False), (((1, 2),), False), (((0, 1), (1, 2)), True), (((0, 2), (1, 2)), True),
            (((0, 2),), False), (all_pairs(3), True), (((1, 0), (2, 0), (2, 1)), False),
        ):
            self.assertIs(respects(CARRYING, Policy(3, pairs)), right, pairs)
        self.assertIs(respects(MILLED, Policy(2, ())), True)
        self.assertIs(respects(LOCKING, Policy(2, ())), False)
        self.assertIs(respects(LOCKING, Policy(2, ((0, 1),))), True)
        self.assertIs(respects(LOCKING, Policy(2, ((1, 0),))), False)
        self.assertIs(respects(Floor(ALONE), Policy(1, ())), True)

    def test_who_is_first(self):
        """The order of two deeds is seen by the third person: to hear one of both is not enough, nor both apart."""
        for pairs, right in (
            ((), False), (((0, 2),), False), (((0, 2), (1, 2)), True), (((0, 1), (0, 2), (1, 0)), False),
        ):
            self.assertIs(respects(RACING, Policy(3, pairs)), right, pairs)

    def test_by_rows(self):
        """No rows show anything if a policy is respected; otherwise the least number of tries is told."""
        for floor, policy in cases(8):
            most = 5 if len(floor.house.deeds) < 3 else 4
            shortest = None
            for person in range(floor.house.people):
                for group in groups(floor, policy, person, most):
                    sights = {}
                    for row in group:
                        seen = floor.seen(hearing.stand_behind(floor, row), person)
                        sights.setdefault(seen, len(row))
                    if len(sights) > 1:
                        length = sorted(sights.values())[1]
                        shortest = length if shortest is None else min(shortest, length)
            number = safe_tries(floor, policy)
            if respects(floor, policy):
                self.assertIsNone(shortest)
                self.assertIsNone(number)
            elif shortest is not None:
                self.assertEqual(number, shortest - 1)
            else:
                self.assertGreaterEqual(number, most)

    def test_tapes_of_tries(self):
        """A policy is respected just if what a person is told determines the tape of their tries."""
        for floor, policy in cases(6):
            unlike = any(
                len({tries_tape(floor, row, person) for row in group}) > 1
                for person in range(floor.house.people) for group in groups(floor, policy, person, 4)
            )
            if respects(floor, policy):
                self.assertIs(unlike, False)
            elif safe_tries(floor, policy) < 4:
                self.assertIs(unlike, True)

    def test_safe_tries_known(self):
        self.assertEqual(safe_tries(CARRYING, Policy(3, ())), 1)
        self.assertEqual(safe_tries(CARRYING, Policy(3, ((1, 2),))), 1)
        self.assertEqual(safe_tries(CARRYING, Policy(3, ((0, 1),))), 1)
        self.assertEqual(safe_tries(CARRYING, Policy(3, ((0, 2),))), 1)
        self.assertIsNone(safe_tries(CARRYING, Policy(3, ((0, 1), (1, 2)))))
        self.assertEqual(safe_tries(RACING, Policy(3, ((0, 2),))), 0)
        self.assertEqual(safe_tries(LOCKING, Policy(2, ())), 1)

    def test_same_again(self):
        ahead = copy.deepcopy(attributes(CARRIED))
        policy = Policy(3, ((0, 1),))
        for floor in (CARRYING, RACING):
            self.assertEqual(hearsay(floor, policy), hearsay(floor, policy))
            self.assertEqual(rows_against(floor, policy, 2, (0,)), rows_against(floor, policy, 2, (0,)))
        self.assertEqual(attributes(CARRIED), ahead)
        self.assertEqual((policy.people, policy.pairs), (3, ((0, 1),)))

    def test_by_name(self):
        policy = Policy(2, ())
        self.assertIs(respects(policy=policy, floor=MILLED), True)
        self.assertEqual(hearsay(policy=policy, floor=MILLED), ("kept", triples(policy=policy, floor=MILLED)))
        self.assertIs(hearsay_holds(thing=None, policy=policy, floor=MILLED), False)
        self.assertEqual(blocks(person=1, policy=policy, floor=MILLED), ((0, 1),))
        self.assertIs(may_know(stands=(0,), person=1, policy=policy, floor=MILLED), False)
        self.assertEqual(len(rows_against(stands=(0,), person=1, policy=policy, floor=MILLED)), 2)
        self.assertIsNone(safe_tries(policy=policy, floor=MILLED))


class Holds(unittest.TestCase):
    def check(self, floor, policy, thing):
        right = hearsay_right(floor, policy.pairs, thing)
        self.assertIs(hearsay_holds(floor, policy, thing), right, (policy.pairs, thing))
        return right

    def respected(self):
        return [
            (floor, policy) for floor, policy in cases(12) if respects(floor, policy) and len(triples(floor, policy)) < 90
        ]

    def test_one_left_out_or_doubled(self):
        for floor, policy in self.respected():
            found = triples(floor, policy)
            for at in range(len(found))[:12]:
                self.assertFalse(self.check(floor, policy, ("kept", found[:at] + found[at + 1:])))
                self.assertFalse(self.check(floor, policy, ("kept", found[:at + 1] + found[at:])))
                if at:
                    swapped = found[:at - 1] + (found[at], found[at - 1]) + found[at + 1:]
                    self.assertFalse(self.check(floor, policy, ("kept", swapped)))

    def test_triples_with_all_people(self):
        for floor, policy in self.respected():
            found = triples(floor, policy)
            everybody = tuple(range(floor.house.people))
            stands = range(len(floor))
            whole = [(one, two, everybody) for one in stands for two in stands]
            for more in (whole, whole[:1], whole[::2], whole[-1:]):
                self.assertTrue(self.check(floor, policy, ("kept", tuple(sorted(found + tuple(more))))))

    def test_more_triples(self):
        right = wrong = 0
        for floor, policy in self.respected():
            found = triples(floor, policy)
            stands = range(min(4, len(floor)))
            for people in ((), (0,), (1,), (0, 1)):
                for more in itertools.product(stands, stands, [people]):
                    if more not in found and len(people) <= floor.house.people:
                        if self.check(floor, policy, ("kept", tuple(sorted(found + (more,))))):
                            right += 1
                        else:
                            wrong += 1
        self.assertGreater(right, 20)
        self.assertGreater(wrong, 20)

    def test_people_not_ascending(self):
        found = triples(CARRYING, Policy(3, ((0, 1), (1, 2))))
        policy = Policy(3, ((0, 1), (1, 2)))
        self.assertTrue(self.check(CARRYING, policy, ("kept", found)))
        for people in ((1, 0), (0, 0), (2, 2), (1, 2, 0), (3,), (-1,), (True,), (0, None), [0], None, ("0",), (0, 1, 2, 2)):
            for more in ((0, 0, people), (len(CARRYING) - 1, len(CARRYING) - 1, people)):
                try:
                    thing = tuple(sorted(found + (more,)))
                except TypeError:
                    thing = found + (more,)
                self.assertFalse(self.check(CARRYING, policy, ("kept", thing)))

    def test_stands(self):
        policy = Policy(2, ())
        found = triples(MILLED, policy)
        for item in ((2, 2, ()), (-1, 0, (0,)), (True, 1, (0,)), (0, 1.0, (0,)), ("0", 0, ()), (0, 0), (0, 0, (), ()), None):
            for thing in (found + (item,), (item,) + found, (item,), found[:3] + (item,) + found[3:]):
                self.assertFalse(self.check(MILLED, policy, ("kept", thing)))

    def test_altered_papers(self):
        for floor, policy in (
            (MILLED, Policy(2, ())), (MILLED, Policy(2, ((0, 1),))), (LOCKING, Policy(2, ((0, 1),))),
            (RACING, Policy(3, ((0, 2), (1, 2)))), (CARRYING, Policy(3, ())), (RACING, Policy(3, ())),
            (LOCKING, Policy(2, ())), (TESTING, Policy(2, ())), (Floor(ALONE), Policy(1, ())),
        ):
            for thing in altered(hearsay(floor, policy)):
                self.check(floor, policy, thing)

    def test_rows(self):
        nothing = Policy(3, ())
        for row, other, person, right in (
            ("ab", "b", 2, True), ("b", "ab", 2, True), ("ab", "", 2, True), ("b", "", 2, False), ("ab", "ba", 2, True),
            ("ab", "b", 1, False), ("ab", "b", 0, False), ("abc", "b", 2, False), ("abc", "bc", 2, True),
            ("ab", "ab", 2, False), ("ab", "b", 3, False), ("ab", "b", -1, False), ("ab", "b", True, False),
            ("ab", "b", None, False), ("ab", "b", "2", False), ("ad", "b", 2, False), ("ab", "d", 2, False),
            ("ab", None, 2, False), (["a", "b"], "b", 2, False), (("a", "b"), "b", 2, False), ("ab" * 200, "b", 2, True),
        ):
            self.assertIs(self.check(CARRYING, nothing, ("shown", row, other, person)), right, (row, other, person))
        for pairs, right in ((((1, 2),), True), (((0, 2),), False), (((0, 1), (1, 2)), False)):
            self.assertIs(self.check(CARRYING, Policy(3, pairs), ("shown", "ab", "b", 2)), right)

    def test_any_values(self):
        for thing in any_values() + ["kept", ("kept",), ("shown",), ("shown", "a", ""), MILLED, Policy(2, ())]:
            for paper in (
                thing, ("kept", thing), ("kept", (thing,)), ("kept", ((thing, 0, ()),)), ("kept", ((0, 0, thing),)),
                ("shown", thing, "b", 2), ("shown", "ab", thing, 2), ("shown", "ab", "b", thing), ("kept", ((0, 0, (thing,)),)),
            ):
                self.check(CARRYING, Policy(3, ()), paper)
                self.check(MILLED, Policy(2, ()), paper)

    def test_papers_of_others(self):
        found = [(floor, policy, hearsay(floor, policy)) for floor, policy in cases(4)]
        for floor, policy, _ in found[::6]:
            for _, _, paper in found:
                self.check(floor, policy, paper)

    def test_thing_stays(self):
        thing = ("kept", [[0, 0, []], {"a": [1]}])
        kept = copy.deepcopy(thing)
        hearsay_holds(MILLED, Policy(2, ()), thing)
        self.assertEqual(thing, kept)


class Blocks(unittest.TestCase):
    def test_all(self):
        for floor, policy in cases(16):
            for person in range(floor.house.people):
                self.assertEqual(blocks(floor, policy, person), hearing.blocks(floor, policy.pairs, person))

    def test_sixty_stands(self):
        floor = Floor(GREAT)
        for pairs in ((), ((0, 1), (1, 2)), all_pairs(3)[1:], all_pairs(3)):
            for person in range(3):
                self.assertEqual(blocks(floor, Policy(3, pairs), person), hearing.blocks(floor, pairs, person))

    def test_known(self):
        self.assertEqual(blocks(MILLED, Policy(2, ()), 0), ((0,), (1,)))
        self.assertEqual(blocks(MILLED, Policy(2, ()), 1), ((0, 1),))
        self.assertEqual(blocks(MILLED, Policy(2, ((0, 1),)), 1), ((0,), (1,)))
        self.assertEqual(blocks(Floor(ALONE), Policy(1, ()), 0), ((0,), (1,)))


class MayKnow(unittest.TestCase):
    def sets(self, floor):
        stands = range(len(floor))
        found = [lot for count in range(len(floor) + 1) for lot in itertools.combinations(stands, count)]
        return found[::max(1, len(found) // 20)]

    def test_all(self):
        for floor, policy in cases(6):
            for person in range(floor.house.people):
                parts = hearing.blocks(floor, policy.pairs, person)
                for stands in self.sets(floor):
                    known = all(set(block) <= set(stands) or not set(block) & set(stands) for block in parts)
                    self.assertIs(may_know(floor, policy, person, stands), known)
                    self.assertIs(rows_against(floor, policy, person, stands) is None, known)

    def test_no_stands_and_all(self):
        for floor, policy in cases(4):
            for stands in ((), tuple(range(len(floor)))):
                self.assertIs(may_know(floor, policy, 0, stands), True)
                self.assertIsNone(rows_against(floor, policy, 0, stands))

    def test_rows_against(self):
        for floor, policy in cases(5):
            most = 4 if len(floor.house.deeds) < 3 else 3
            for person in range(floor.house.people):
                for stands in self.sets(floor)[::2]:
                    rows = rows_against(floor, policy, person, stands)
                    if rows is None:
                        continue
                    self.assertIsInstance(rows, tuple)
                    row, other = rows
                    self.assertIn(hearing.stand_behind(floor, row), stands)
                    self.assertNotIn(hearing.stand_behind(floor, other), stands)
                    one, two = [hearing.told(floor.house, policy.pairs, tried)[person] for tried in rows]
                    self.assertEqual(one, two)
                    shortest = shortest_against(floor, policy, person, stands, most)
                    if shortest is None:
                        self.assertGreater(max(map(len, rows)), most)
                    else:
                        self.assertEqual(max(map(len, rows)), shortest)

    def test_told_by_every_row(self):
        """Who may know has been told by every row, who may not is shown two that tell them the same."""
        for floor, policy in cases(4):
            for person in range(floor.house.people):
                for stands in self.sets(floor)[::3]:
                    if may_know(floor, policy, person, stands):
                        self.assertIsNone(shortest_against(floor, policy, person, stands, 3))

    def test_known(self):
        policy = Policy(2, ())
        row, other = rows_against(MILLED, policy, 1, (1,))
        self.assertEqual({row, other}, {"a", ""})
        self.assertEqual(row, "a")
        self.assertEqual(rows_against(MILLED, policy, 1, (0,)), ("", "a"))
        self.assertIsNone(rows_against(MILLED, policy, 0, (1,)))

    def test_sixty_stands(self):
        floor = Floor(GREAT)
        for pairs in ((), ((0, 1), (1, 2)), all_pairs(3)[2:]):
            policy = Policy(3, pairs)
            for stands in ((0,), (59,), tuple(range(0, 60, 7))):
                for person in range(3):
                    rows = rows_against(floor, policy, person, stands)
                    self.assertIs(rows is None, may_know(floor, policy, person, stands))
                    if rows is not None:
                        self.assertIs(tell_alike(floor, policy, *rows, person), True)
                        self.assertEqual([stand_behind(floor, row) in stands for row in rows], [True, False])


class Refused(unittest.TestCase):
    def test_other_people(self):
        calls = (
            lambda floor, policy: tell_alike(floor, policy, None, "x", 0), triples, respects, hearsay, safe_tries,
            lambda floor, policy: hearsay_holds(floor, policy, None), lambda floor, policy: blocks(floor, policy, 0),
            lambda floor, policy: may_know(floor, policy, 0, (0,)),
            lambda floor, policy: rows_against(floor, policy, 0, ()),
            lambda floor, policy: hearsay_holds(floor, policy, ("shown", "a", "", 0)),
            lambda floor, policy: tell_alike(floor, policy, "a", "a", 0),
        )
        for floor in (MILLED, CARRYING, Floor(ALONE)):
            for people in (1, 2, 3):
                for pairs in ((), all_pairs(people)):
                    if people != floor.house.people:
                        for call in calls:
                            with self.assertRaises(OtherPeople):
                                call(floor, Policy(people, pairs))


if __name__ == "__main__":
    unittest.main()
