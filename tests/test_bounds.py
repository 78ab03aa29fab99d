"""Houses that stay within bounds, or go beyond all of them, and the papers for it."""

import copy
import unittest

from loghouse.values import bounds_hold, is_bounded, judge_bounds, rounds_beyond, value_behind
from tests.altering import altered, other_values
from tests.papers import bounds_right, shown
from tests.samples import BARE, FULL, MILL, MILL_PARTS, YARD, House, any_values, attributes, made, random_parts
from tests.walking import letters, strings, way_state
from tests.yards import AWAY, BLIND, BOUNDED, CHAIN, CUBE, DOUBLE, FOURTH, HELD, LATE, LEVEL, MIDDLE, MIRRORS
from tests.yards import ROUND, SHIFTED, SIXTH, STEP, UNBOUNDED, bounded_house, one_person, put_in_all_ways

STAYING = (MILL, BARE) + BOUNDED + tuple(bounded_house(seed) for seed in range(60))
GOING = (YARD, FULL) + UNBOUNDED
MIXED = tuple(House(**random_parts(seed)) for seed in range(25))


def kept_values(house, kept, way):
    """The place behind a way, and the values of the forms that are kept there."""
    place, numbers = way_state(house, way)
    return place, tuple(
        form[0] + sum(factor * number for factor, number in zip(form[1:], numbers)) for form in kept[place]
    )


def spots_of(house, kept):
    """The spots to which ways lead, by ways as short as can be."""
    met = {kept_values(house, kept, ""): ""}
    queue = [""]
    for way in queue:
        for deed in letters(house):
            if way_state(house, way + deed) and kept_values(house, kept, way + deed) not in met:
                met[kept_values(house, kept, way + deed)] = way + deed
                queue.append(way + deed)
    return tuple(sorted(met))


class JudgeBounds(unittest.TestCase):
    def test_houses_that_stay_within_bounds(self):
        for house in STAYING:
            with self.subTest(house=str(house)):
                paper = judge_bounds(house)
                self.assertEqual(paper[0], "within")
                self.assertTrue(bounds_right(house, paper))
                self.assertEqual(paper[2], spots_of(house, paper[1]))
                self.assertIs(bounds_hold(house, paper), True)
                self.assertIs(is_bounded(house), True)

    def test_houses_that_go_beyond(self):
        for house in GOING:
            with self.subTest(house=str(house)):
                paper = judge_bounds(house)
                self.assertEqual(paper[0], "beyond")
                self.assertTrue(bounds_right(house, paper))
                self.assertIs(bounds_hold(house, paper), True)
                self.assertIs(is_bounded(house), False)

    def test_any_houses(self):
        for house in MIXED:
            with self.subTest(house=str(house)):
                paper = judge_bounds(house)
                self.assertTrue(bounds_right(house, paper))
                if paper[0] == "within":
                    self.assertEqual(paper[2], spots_of(house, paper[1]))
                self.assertIs(is_bounded(house), paper[0] == "within")
                self.assertIs(bounds_hold(house, paper), True)

    def test_other_registers(self):
        for house in STAYING[:25] + GOING:
            for other in put_in_all_ways(house):
                paper = judge_bounds(other)
                self.assertEqual(paper[0], judge_bounds(house)[0])
                self.assertTrue(bounds_right(other, paper))
                self.assertIs(bounds_hold(other, paper), True)
                if paper[0] == "within":
                    self.assertEqual(paper[2], spots_of(other, paper[1]))

    def test_words_have_at_most_sixty_deeds(self):
        for house in GOING:
            for word in judge_bounds(house)[1:4]:
                self.assertLessEqual(len(word), 60)

    def test_values_never_come_round(self):
        for house in GOING:
            paper = judge_bounds(house)
            self.assertGreater(len({value_behind(house, paper, times) for times in range(200)}), 16)

    def test_known_houses(self):
        for house, count in ((SIXTH, 6), (FOURTH, 4), (CUBE, 60), (AWAY, 1), (BLIND, 1), (LEVEL, 1), (MILL, 2)):
            self.assertEqual(len(judge_bounds(house)[2]), count, str(house))

    def test_nothing_to_keep(self):
        self.assertEqual(judge_bounds(BARE), ("within", ((),), ((0, ()),)))
        self.assertEqual(judge_bounds(BLIND), ("within", ((),), ((0, ()),)))

    def test_constants_alone_are_looked_at(self):
        house = one_person((0,), (0,), ((0, "a", 0, ((1, 1),), ()),), (((7, 0), (0, 0)),))
        self.assertEqual(judge_bounds(house), ("within", ((),), ((0, ()),)))

    def test_place_to_which_no_way_leads(self):
        kept, spots = judge_bounds(AWAY)[1:]
        self.assertEqual([place for place, _ in spots], [0])
        self.assertEqual(len(kept[1]), 1)

    def test_goes_beyond_only_away_from_all_ways(self):
        # Were there a way to the place 1, the house would go beyond.
        joined = made(attributes(AWAY), arrows=((0, "a", 1, ((8, -1),), ()),) + AWAY.arrows[1:])
        self.assertIs(is_bounded(joined), False)

    def test_many_spots(self):
        # All rows of four digits, and of three and less ahead of them: 625 and what comes first.
        house = one_person(
            (7, 7, 7), (0,),
            tuple((0, deed, 0, ((at, 0, 0, 0), (0, 1, 0, 0), (0, 0, 1, 0)), ()) for at, deed in enumerate("abcde")),
            (((0, 1, 0, 0), (0, 0, 1, 0)), ), deeds="abcde",
            tests=((0, "a", (0, 0, 0, 1), 0, 9),),
        )
        paper = judge_bounds(house)
        self.assertEqual(len(paper[2]), 1 + 5 + 25 + 125)
        self.assertTrue(bounds_right(house, paper))

    def test_many_spots_at_two_places(self):
        # The three last deeds, and whether they were even in number.
        house = one_person(
            (7, 7, 7), (0,),
            tuple(
                (source, deed, 1 - source, ((at, 0, 0, 0), (0, 1, 0, 0), (0, 0, 1, 0)), ())
                for source in (0, 1) for at, deed in enumerate("abcde")
            ), (((0, 0, 0, 1),), ((0, 0, 0, 1),)), deeds="abcde",
        )
        paper = judge_bounds(house)
        self.assertEqual(len(paper[2]), 1 + 5 + 25 + 250)
        self.assertTrue(bounds_right(house, paper))
        self.assertIs(bounds_hold(house, paper), True)

    def test_ring_of_eight_deeds(self):
        """Turns by a fourth about two middles, four of them, each with a deed that only leads on; others do nothing."""
        still, turns = ((0, 1, 0), (0, 0, 1)), (((0, 0, -1), (0, 1, 0)), ((1, 0, -1), (0, 1, 0)))
        house = one_person(
            (0, 0), (0,),
            tuple((0, deed, 1 if deed == "a" else 0, still, ()) for deed in "abcde")
            + ((1, "a", 0, turns[0], ()), (1, "b", 0, turns[1], ()))
            + tuple((1, deed, 1, still, ()) for deed in "cde"),
            (((0, 1, 0),), ()), deeds="abcde",
        )
        paper = judge_bounds(house)
        self.assertTrue(bounds_right(house, paper), paper)
        self.assertEqual(paper[0], "beyond")

    def test_looks_behind_further_ways(self):
        paper = judge_bounds(LATE)
        self.assertEqual(paper[0], "beyond")
        self.assertIn("b", paper[3])

    def test_rings_of_several_deeds(self):
        # Rings of fewer deeds come round here.
        self.assertEqual(judge_bounds(ROUND)[0], "beyond")
        word = judge_bounds(SHIFTED)[2]
        self.assertIn("b", word)
        self.assertIn("a", word)

    def test_same_again(self):
        for house in (MILL, MIDDLE, MIRRORS, ROUND):
            ahead = copy.deepcopy(attributes(house))
            self.assertEqual(judge_bounds(house), judge_bounds(house))
            self.assertEqual(judge_bounds(House.read(str(house))), judge_bounds(house))
            self.assertEqual(attributes(house), ahead)

    def test_never_both(self):
        for house in STAYING[:40]:
            for loop in [way for way in strings(house, 4) if way]:
                for index in range(2):
                    self.assertIs(bounds_hold(house, ("beyond", "", loop, "", index)), False)

    def test_by_name(self):
        paper = judge_bounds(house=MILL)
        self.assertIs(bounds_hold(thing=paper, house=MILL), True)
        self.assertIs(is_bounded(house=MILL), True)


class Within(unittest.TestCase):
    """bounds_hold with papers that a house stays within bounds."""

    def right(self, house, paper):
        self.assertTrue(bounds_right(house, paper), paper)
        self.assertIs(bounds_hold(house, paper), True, paper)

    def wrong(self, house, paper):
        self.assertFalse(bounds_right(house, paper), paper)
        self.assertIs(bounds_hold(house, paper), False, paper)

    def test_example(self):
        self.right(MILL, ("within", (((0, 1),),), ((0, (0,)), (0, (1,)))))

    def test_other_forms_kept(self):
        self.right(MILL, ("within", (((0, -1),),), ((0, (-1,)), (0, (0,)))))
        self.right(MILL, ("within", (((-9, 1),),), ((0, (-9,)), (0, (-8,)))))
        self.right(MILL, ("within", (((4, -1),),), ((0, (3,)), (0, (4,)))))

    def test_looked_at_form_is_no_combination_by_integers(self):
        self.wrong(MILL, ("within", (((0, 2),),), ((0, (0,)), (0, (2,)))))
        self.wrong(MILL, ("within", (((5, 3),),), ((0, (5,)), (0, (8,)))))
        self.wrong(MILL, ("within", ((),), ((0, ()),)))
        half = made(MILL_PARTS, looks=((((0, 2),),), ((),)))
        self.right(half, ("within", (((0, 2),),), ((0, (0,)), (0, (2,)))))
        self.right(half, ("within", (((0, 1),),), ((0, (0,)), (0, (1,)))))
        self.wrong(half, ("within", (((0, 4),),), ((0, (0,)), (0, (4,)))))

    def test_forms_that_are_not_independent(self):
        spots = ((0, (0, 0)), (0, (1, 2)))
        self.wrong(MILL, ("within", (((0, 1), (0, 2)),), spots))
        self.wrong(MILL, ("within", (((0, 1), (0, 1)),), ((0, (0, 0)), (0, (1, 1)))))
        self.wrong(MILL, ("within", (((0, 1), (3, 0)),), ((0, (0, 3)), (0, (1, 3)))))
        self.wrong(MILL, ("within", (((0, 1), (0, 0)),), ((0, (0, 0)), (0, (1, 0)))))
        self.wrong(BARE, ("within", (((1, 0),),), ((0, (1,)),)))
        self.wrong(BARE, ("within", (((0, 0),),), ((0, (0,)),)))

    def test_more_forms_than_needed(self):
        self.right(BARE, ("within", (((0, 1),),), ((0, (0,)),)))
        # The sum alone is needed; both registers by themselves go beyond all bounds.
        self.right(LEVEL, ("within", (((0, 1, 1),),), ((0, (7,)),)))
        self.wrong(LEVEL, ("within", (((0, 1, 1), (0, 1, 0)),), ((0, (7, 0)),)))

    def test_three_forms(self):
        kept = (((5, 1, 1, 0), (0, 0, 1, 0), (1, 0, 0, -1)), ((0, 1, 0, 0),), ((2, -1, 0, 0),))
        self.right(CUBE, ("within", kept, spots_of(CUBE, kept)))
        wrong = (((5, 1, 1, 0), (0, 1, -1, 0), (1, 0, 0, -1)),) + kept[1:]
        self.wrong(CUBE, ("within", wrong, spots_of(CUBE, wrong)))

    def test_led_back_form_is_no_combination(self):
        # x is looked at; the deed sets it to y, which is not kept.
        house = one_person((1, 1), (), ((0, "a", 0, ((0, 0, 1), (0, 0, 1)), ()),), (((0, 1, 0),),))
        self.wrong(house, ("within", (((0, 1, 0),),), ((0, (1,)),)))
        self.right(house, ("within", (((0, 1, 0), (0, 0, 1)),), ((0, (1, 1)),)))
        self.wrong(house, ("within", (((0, 1, 0), (0, 0, 2)),), ((0, (1, 2)),)))

    def test_forms_of_a_place_without_ways(self):
        spots = ((0, (4,)),)
        self.right(AWAY, ("within", (((0, 1),), ((0, 1),)), spots))
        self.right(AWAY, ("within", (((0, 1),), ((-8, -1),)), spots))
        self.wrong(AWAY, ("within", (((0, 1),), ()), spots))
        self.wrong(AWAY, ("within", (((0, 1),), ((0, 3),)), spots))

    def test_spots_to_which_no_way_leads(self):
        kept = (((0, 1),),)
        more = [(0, (value,)) for value in (-3, 0, 1, 4, 40, -39)]
        self.right(MILL, ("within", kept, tuple(sorted(more))))
        self.wrong(MILL, ("within", kept, tuple(sorted(more[:3]))))
        self.wrong(MILL, ("within", kept, tuple(sorted(more + [(0, (2,))]))))

    def test_spots_at_places_without_ways(self):
        kept = (((0, 1),), ((0, 1),))
        # From a spot at the place 1 the deed a leads on and on.
        self.wrong(AWAY, ("within", kept, ((0, (4,)), (1, (0,)))))
        still = made(attributes(AWAY), arrows=(AWAY.arrows[0], (1, "a", 1, ((0, -1),), ()), AWAY.arrows[2]))
        self.right(still, ("within", kept, ((0, (4,)),)))
        self.right(still, ("within", kept, ((0, (0,)), (0, (4,)), (0, (8,)), (1, (0,)))))
        self.wrong(still, ("within", kept, ((0, (4,)), (1, (0,)))))
        self.wrong(still, ("within", kept, ((0, (0,)), (0, (4,)), (1, (0,)))))

    def test_spots_that_are_not_closed(self):
        for house in STAYING[2:30]:
            paper = judge_bounds(house)
            for at in range(0, len(paper[2]), 1 + len(paper[2]) // 12):
                self.wrong(house, paper[:2] + (paper[2][:at] + paper[2][at + 1:],))

    def test_no_spots(self):
        self.wrong(BARE, ("within", ((),), ()))
        self.wrong(MILL, ("within", (((0, 1),),), ()))

    def test_order_of_spots(self):
        kept = (((0, 1),),)
        self.wrong(MILL, ("within", kept, ((0, (1,)), (0, (0,)))))
        self.wrong(MILL, ("within", kept, ((0, (0,)), (0, (0,)), (0, (1,)))))
        self.wrong(MILL, ("within", kept, ((0, (0,)), (0, (1,)), (1, (0,)))))

    def test_places(self):
        self.wrong(MILL, ("within", (((0, 1),), ()), ((0, (0,)), (0, (1,)))))
        self.wrong(MILL, ("within", (), ((0, (0,)), (0, (1,)))))
        self.wrong(MILL, ("within", (((0, 1),), ((0, 1),)), ((0, (0,)), (0, (1,)))))

    def test_forms_of_other_lengths(self):
        for form in ((0,), (0, 1, 0), (0, 1, 1), ()):
            self.wrong(MILL, ("within", ((form,),), ((0, (0,)), (0, (1,)))))

    def test_values_of_other_lengths(self):
        kept = (((0, 1),),)
        self.wrong(MILL, ("within", kept, ((0, (0,)), (0, (1,)), (0, (1, 0)))))
        self.wrong(MILL, ("within", kept, ((0, ()), (0, (0,)), (0, (1,)))))

    def test_altered_papers(self):
        for house in (MILL, BARE, SIXTH, AWAY, LEVEL, MIDDLE) + STAYING[9:17]:
            paper = judge_bounds(house)
            if len(paper[2]) > 6:
                continue
            for thing in altered(paper):
                self.assertIs(bounds_hold(house, thing), bounds_right(house, thing), thing)

    def test_papers_of_other_houses(self):
        papers = [judge_bounds(house) for house in STAYING[:20] + GOING]
        for house in STAYING[:20] + GOING:
            for paper in papers:
                self.assertIs(bounds_hold(house, paper), bounds_right(house, paper), paper)

    def test_great_integers(self):
        big = 10 ** 39
        self.right(MILL, ("within", (((big, 1),),), ((0, (big,)), (0, (big + 1,)))))
        self.right(MILL, ("within", (((0, 1),),), ((0, (1 - big,)), (0, (0,)), (0, (1,)), (0, (big,)))))
        self.wrong(MILL, ("within", (((0, big),),), ((0, (0,)), (0, (big,)))))

    def test_many_spots_that_none_leads_to(self):
        spots = tuple((0, (value,)) for value in range(-1500, 1502))
        self.right(MILL, ("within", (((0, 1),),), spots))
        self.wrong(MILL, ("within", (((0, 1),),), spots[1:]))
        self.wrong(MILL, ("within", (((0, 1),),), spots + ((0, (2000,)),)))


class Beyond(unittest.TestCase):
    """bounds_hold with papers that a house goes beyond all bounds."""

    def right(self, house, *paper):
        self.assertTrue(bounds_right(house, ("beyond",) + paper), paper)
        self.assertIs(bounds_hold(house, ("beyond",) + paper), True, paper)

    def wrong(self, house, *paper):
        self.assertFalse(bounds_right(house, ("beyond",) + paper), paper)
        self.assertIs(bounds_hold(house, ("beyond",) + paper), False, paper)

    def test_example(self):
        self.right(MIRRORS, "", "ba", "", 0)
        self.right(MIRRORS, "", "ab", "", 0)
        self.right(MIRRORS, "a", "ba", "b", 0)
        self.right(MIRRORS, "ab" * 30, "ab" * 30, "ba" * 30, 0)

    def test_rings_that_come_round(self):
        for loop in ("a", "b", "aa", "abba", "abab" + "baba"):
            self.wrong(MIRRORS, "", loop, "", 0)
        self.wrong(MILL, "", "a", "", 0)
        self.wrong(SIXTH, "", "a", "", 0)
        self.wrong(FOURTH, "a", "aaaaa", "a", 0)

    def test_values_that_stand_still_at_first(self):
        self.right(CHAIN, "", "a", "", 0)
        # The values are 0, 0, 1 and 3 then.
        self.assertEqual([value_behind(CHAIN, ("beyond", "", "a", "", 0), t) for t in range(5)], [0, 0, 0, 1, 4])

    def test_values_that_stop(self):
        stopping = one_person(
            (9, 5, 7), (), ((0, "a", 0, ((3, 0, 0, 0), (0, 1, 0, 0), (0, 0, 1, 0)), ()),), (((0, 0, 0, 1),),),
        )
        self.wrong(stopping, "", "a", "", 0)
        pair = one_person((9, 5), (), ((0, "a", 0, ((0, 0, 0), (0, 1, 0)), ()),), (((0, 0, 1),),))
        self.wrong(pair, "", "a", "", 0)

    def test_goes_on_only_behind_other_rounds(self):
        # Exchanged and stepped at once: each register stands still in each second round.
        house = one_person((0, 0), (), ((0, "a", 0, ((0, 0, 1), (1, 1, 0)), ()),), (((0, 1, 0),),))
        self.right(house, "", "a", "", 0)
        self.assertEqual([value_behind(house, ("beyond", "", "a", "", 0), t) for t in range(6)], [0, 0, 1, 1, 2, 2])

    def test_way_that_is_needed(self):
        house = one_person(
            (0,), (), ((0, "a", 1, ((1, 1),), ()), (1, "a", 1, ((0, 2),), ()), (1, "b", 0, ((0, 0),), ())),
            ((), ((0, 1),)),
        )
        self.right(house, "a", "a", "", 0)
        self.wrong(house, "", "a", "", 0)
        self.wrong(house, "", "ab", "a", 0)
        self.wrong(house, "ab", "ab", "a", 0)
        self.right(house, "aba", "a", "aa", 0)

    def test_words_that_are_no_ways(self):
        self.wrong(ROUND, "c", "aaa", "aa", 0)
        self.wrong(ROUND, "b", "aaa", "aa", 0)
        self.wrong(ROUND, "", "b", "aa", 0)
        self.wrong(ROUND, "", "aaa", "ab", 0)
        self.wrong(ROUND, "", "aaac", "aa", 0)
        self.wrong(ROUND, "", "aaa", "A", 0)
        self.wrong(MIRRORS, "", "ab ", "", 0)

    def test_loops_that_do_not_lead_back(self):
        self.right(ROUND, "", "aaa", "aa", 0)
        self.right(ROUND, "a", "aaa", "a", 0)
        self.wrong(ROUND, "", "a", "a", 0)
        self.wrong(ROUND, "", "aa", "", 0)
        self.wrong(ROUND, "a", "aa", "aaa", 0)
        self.wrong(ROUND, "", "aaaa", "a", 0)

    def test_empty_loop(self):
        self.wrong(MIRRORS, "", "", "", 0)
        self.wrong(STEP, "a", "", "a", 0)

    def test_index(self):
        two = made(MILL_PARTS, arrows=MIRRORS.arrows, looks=((((1, 0),),), (((0, 1), (3, 0)),)))
        self.right(two, "", "ab", "", 1)
        for index in (-2, -1, 0, 2, 3, 10 ** 39):
            self.wrong(two, "", "ab", "", index)
        self.wrong(ROUND, "", "aaa", "", 0)
        self.wrong(ROUND, "", "aaa", "a", 0)
        self.wrong(ROUND, "", "aaa", "aa", 1)
        self.wrong(ROUND, "", "aaa", "aa", -1)
        self.wrong(BLIND, "", "a", "", 0)

    def test_forms_of_tests(self):
        self.right(HELD, "", "a", "", 0)
        self.right(HELD, "", "b", "", 1)
        self.wrong(HELD, "", "ab", "", 1)
        self.wrong(HELD, "", "a", "", 2)

    def test_sixty_and_sixty_one_deeds(self):
        self.right(STEP, "a" * 60, "a" * 60, "a" * 60, 0)
        self.wrong(STEP, "a" * 61, "a", "", 0)
        self.wrong(STEP, "", "a" * 61, "", 0)
        self.wrong(STEP, "", "a", "a" * 61, 0)
        self.right(DOUBLE, "a" * 60, "a" * 60, "a" * 60, 0)
        self.wrong(STEP, "", "a" * 4000, "", 0)

    def test_altered_papers(self):
        for house in GOING:
            for thing in altered(judge_bounds(house)):
                self.assertIs(bounds_hold(house, thing), bounds_right(house, thing), thing)

    def test_all_short_papers(self):
        for house in (MIRRORS, ROUND, HELD):
            words = list(strings(house, 3))
            for way in words[:4]:
                for loop in words:
                    for last in words[:2]:
                        paper = ("beyond", way, loop, last, 0)
                        self.assertIs(bounds_hold(house, paper), bounds_right(house, paper), paper)

    def test_any_values(self):
        for house in (MILL, MIRRORS, BARE):
            for thing in any_values() + ["within", "beyond", ("within",), ("beyond",), ("within", (), ()),
                                         ("beyond", (), (), (), ()), ("beyond", None, "a", "", 0),
                                         ("within", "", ""), (MILL, (), ()), (["within"], (), ())]:
                self.assertIs(bounds_hold(house, thing), False, thing)
                for paper in (judge_bounds(house), ("beyond", "", "ba", "", 0)):
                    for at in range(len(paper)):
                        other = paper[:at] + (thing,) + paper[at + 1:]
                        self.assertIs(bounds_hold(house, other), bounds_right(house, other), other)

    def test_words_exchanged(self):
        within, beyond = judge_bounds(MILL), judge_bounds(MIRRORS)
        self.assertIs(bounds_hold(MILL, ("beyond",) + within[1:]), False)
        self.assertIs(bounds_hold(MIRRORS, ("within",) + beyond[1:]), False)
        self.assertIs(bounds_hold(MILL, list(within)), False)
        self.assertIs(bounds_hold(MIRRORS, list(beyond)), False)

    def test_arguments_stay(self):
        thing = ("within", [((0, 1),)], {"a": [1]})
        kept = copy.deepcopy(thing)
        bounds_hold(MILL, thing)
        self.assertEqual(thing, kept)


class Rounds(unittest.TestCase):
    PAPERS = (
        (MIRRORS, ("beyond", "", "ba", "", 0)), (MIRRORS, ("beyond", "ab", "abab", "a", 0)),
        (STEP, ("beyond", "aaa", "aa", "a", 0)), (ROUND, ("beyond", "", "aaa", "aa", 0)),
        (CHAIN, ("beyond", "", "a", "", 0)), (DOUBLE, ("beyond", "", "a", "", 0)),
    )

    def all_papers(self):
        return self.PAPERS + tuple((house, judge_bounds(house)) for house in GOING)

    def test_value_behind(self):
        for house, paper in self.all_papers():
            for times in range(12):
                self.assertEqual(value_behind(house, paper, times), shown(house, paper, times))

    def test_example(self):
        self.assertEqual([value_behind(MIRRORS, ("beyond", "", "ba", "", 0), t) for t in range(5)], [0, 1, 2, 3, 4])

    def test_many_rounds(self):
        self.assertEqual(value_behind(STEP, ("beyond", "aaa", "aa", "a", 0), 200), 404)
        self.assertEqual(value_behind(DOUBLE, ("beyond", "", "a" * 60, "", 0), 200), 2 ** 12000)
        for house, paper in self.all_papers():
            self.assertEqual(value_behind(house, paper, 60), shown(house, paper, 60))

    def test_rounds_beyond(self):
        for house, paper in self.all_papers():
            for bound in (0, 1, 2, 3, 7, 50):
                rounds = rounds_beyond(house, paper, bound)
                self.assertGreater(abs(shown(house, paper, rounds)), bound)
                for times in range(min(rounds, 60)):
                    self.assertLessEqual(abs(shown(house, paper, times)), bound)

    def test_bounds_that_are_just_met(self):
        paper = ("beyond", "", "a", "", 0)
        self.assertEqual(rounds_beyond(STEP, paper, 0), 1)
        self.assertEqual(rounds_beyond(STEP, paper, 999), 1000)
        self.assertEqual(rounds_beyond(STEP, paper, 1000), 1001)
        self.assertEqual(rounds_beyond(DOUBLE, paper, 0), 0)
        self.assertEqual(rounds_beyond(DOUBLE, paper, 511), 9)
        self.assertEqual(rounds_beyond(DOUBLE, paper, 512), 10)

    def test_values_below_zero(self):
        paper = ("beyond", "", "b", "", 1)
        self.assertEqual([value_behind(HELD, paper, t) for t in range(3)], [0, -1, -2])
        self.assertEqual(rounds_beyond(HELD, paper, 30), 31)

    def test_first_of_several(self):
        # Values far from 0 at first come back to it before they go on.
        house = one_person((-50,), (), ((0, "a", 0, ((3, 1),), ()),), (((0, 1),),))
        paper = ("beyond", "", "a", "", 0)
        self.assertEqual(rounds_beyond(house, paper, 49), 0)
        self.assertEqual(rounds_beyond(house, paper, 50), 34)
        self.assertEqual(rounds_beyond(house, paper, 1000), 351)

    def test_by_name(self):
        paper = ("beyond", "", "a", "", 0)
        self.assertEqual(value_behind(times=3, paper=paper, house=STEP), 3)
        self.assertEqual(rounds_beyond(bound=3, paper=paper, house=STEP), 4)


class Others(unittest.TestCase):
    def test_right_papers_put_otherwise(self):
        """Papers that are right stay so where the document does not ask for the least ones."""
        for house in GOING:
            for thing in other_values(judge_bounds(house)):
                self.assertIs(bounds_hold(house, thing), bounds_right(house, thing), thing)
