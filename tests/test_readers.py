"""Readers: their parts, what they write, least ones, and two put behind one another."""

import copy
import itertools
import random
import unittest

from loghouse import readers
from loghouse.errors import BadReader, HouseError
from loghouse.floors import Floor
from loghouse.readers import Reader
from tests import kinds
from tests.listed import check_methods
from tests.samples import MILL, any_values
from tests.wrong import other_lengths, wrong_integers, wrong_tuples

PARTS = ("states", "first", "moves", "ends")

COPY = (1, (), ((0, "x", ("x",), 0), (0, "y", (), 0)), ((0, ()),))
# Writes two marks late, one early, and has a state to which nothing leads and one from which no end is reached.
LOOSE = (
    6, ("f",),
    (
        (0, "a", (), 1), (0, "b", ("z", "z"), 3), (1, "a", ("x", "y"), 2), (1, "b", ("x",), 2),
        (2, "a", (), 1), (4, "a", ("q",), 4), (4, "b", ("q",), 0), (5, "a", (), 5),
    ),
    ((2, ("w",)), (4, ("v",)), (5, ())),
)
EMPTY = (1, (), (), ())


def random_parts(dice, reads="ab", writes="xy", states=3):
    """Right parts of a reader."""
    count = dice.randint(1, states)

    def some(most=2):
        return tuple(dice.choice(writes) for _ in range(dice.choice((0, 0, 1, 1, most))))

    moves = tuple(
        (state, mark, some(), dice.randrange(count)) for state in range(count) for mark in sorted(reads)
        if dice.random() < 0.75
    )
    ends = tuple((state, some()) for state in range(count) if dice.random() < 0.6)
    return count, some(1), moves, ends


def random_readers(count, seed, **choices):
    dice = random.Random(seed)
    return [random_parts(dice, **choices) for _ in range(count)]


def attributes(reader):
    return tuple(getattr(reader, part) for part in PARTS)


class Listed(unittest.TestCase):
    def test_methods(self):
        self.assertEqual(Reader.__module__, readers.__name__)
        check_methods(self, Reader, {
            "__init__": "states first moves ends", "__len__": "", "__eq__": "other", "written": "marks",
            "begun": "marks", "least": "", "then": "other",
        })


class Parts(unittest.TestCase):
    def right(self, *parts):
        self.assertEqual(attributes(Reader(*parts)), parts)
        self.assertEqual(len(Reader(*parts)), parts[0])

    def wrong(self, word, *parts):
        with self.assertRaises(BadReader) as caught:
            Reader(*parts)
        self.assertEqual(caught.exception.part, word, parts)
        self.assertIs(type(caught.exception.part), str)
        self.assertIs(type(caught.exception).__base__, HouseError)

    def wrong_in(self, at, thing, parts=LOOSE):
        self.wrong(PARTS[at], *parts[:at], thing, *parts[at + 1:])

    def test_right_readers(self):
        for parts in [COPY, LOOSE, EMPTY] + random_readers(50, 1):
            self.right(*parts)

    def test_by_name(self):
        reader = Reader(ends=COPY[3], moves=COPY[2], first=COPY[1], states=COPY[0])
        self.assertEqual(attributes(reader), COPY)

    def test_states(self):
        for states in (1, 2, 10000):
            self.right(states, (), (), ())
        for states in (0, -1, 10001, 10 ** 39, -10 ** 39, True, False, None, "1", (1,), [1], {}, {1: 1}):
            self.wrong("states", states, (), (), ())
        for thing in any_values():
            if thing != 4 or isinstance(thing, bool):
                self.wrong("states", thing, (), (), ())

    def test_many_states(self):
        moves = tuple((state, "m", ("w",), state + 1) for state in range(9999))
        reader = Reader(10000, (), moves, ((9999, ()),))
        self.assertEqual(len(reader), 10000)
        self.assertEqual(reader.begun(("m",) * 100), ("w",) * 100)
        self.wrong("moves", 9999, (), moves, ())
        self.wrong("ends", 10000, (), moves, ((10000, ()),))

    def test_first(self):
        self.right(1, ("a",), (), ())
        self.right(1, (" ", "\n", "a b", "%", "x" * 4000), (), ())
        for thing in wrong_tuples(("a", "b")) + [("",), ("a", ""), ("", "a"), ("a", None), ("a", 1), (True,), (("a",),),
                                                 (["a"],), "a", 1, ("a", ())]:
            self.wrong_in(1, thing)
        for thing in any_values():
            self.wrong_in(1, thing) if thing != () else None

    def test_moves_of_wrong_kinds(self):
        for thing in wrong_tuples(LOOSE[2]) + any_values() + [(None,), LOOSE[2] + (None,), LOOSE[2] + ((),)]:
            self.wrong_in(2, thing)
        for at, item in enumerate(LOOSE[2]):
            for thing in wrong_tuples(item) + list(other_lengths(item)) + any_values():
                self.wrong_in(2, LOOSE[2][:at] + (thing,) + LOOSE[2][at + 1:])

    def test_parts_of_moves(self):
        move = (1, "m", ("u", "v"), 2)
        self.right(3, (), (move,), ())
        for at, things in (
            (0, wrong_integers(1) + [-1, 3, 4, 10 ** 39]), (3, wrong_integers(2) + [-1, 3, 4, 10 ** 39]),
            (1, ["", None, 1, True, ("m",), ["m"], (), {}, b"m"]),
            (2, wrong_tuples(("u", "v")) + [("",), ("u", ""), ("u", None), ("u", 1), ("u", True), ("u", ("v",)), "uv"]),
        ):
            for thing in things:
                self.wrong("moves", 3, (), (move[:at] + (thing,) + move[at + 1:],), ())

    def test_any_string_is_a_mark(self):
        for mark in (" ", "\n", "a:3,-1", "-", "%", "x" * 4000, "A b"):
            self.right(1, (mark,), ((0, mark, (mark, mark), 0),), ((0, (mark,)),))

    def test_order_of_moves(self):
        one, two, three = (0, "a", (), 0), (0, "b", (), 1), (1, "a", (), 0)
        self.right(2, (), (one, two, three), ())
        for moves in itertools.permutations((one, two, three)):
            if moves != (one, two, three):
                self.wrong("moves", 2, (), moves, ())
        self.right(2, (), ((0, "a", (), 0), (0, "aa", (), 0), (0, "b", (), 0)), ())
        self.wrong("moves", 2, (), ((0, "aa", (), 0), (0, "a", (), 0)), ())

    def test_two_moves_of_one_state_and_mark(self):
        for other in ((0, "a", (), 0), (0, "a", (), 1), (0, "a", ("x",), 0), (0, "a", ("x",), 1)):
            self.wrong("moves", 2, (), ((0, "a", (), 0), other), ())
            self.wrong("moves", 2, (), ((0, "a", (), 0), other, (1, "a", (), 0)), ())

    def test_ends_of_wrong_kinds(self):
        for thing in wrong_tuples(LOOSE[3]) + any_values() + [(None,), LOOSE[3] + (None,), LOOSE[3] + ((),)]:
            self.wrong_in(3, thing)
        for at, item in enumerate(LOOSE[3]):
            for thing in wrong_tuples(item) + list(other_lengths(item)) + any_values():
                self.wrong_in(3, LOOSE[3][:at] + (thing,) + LOOSE[3][at + 1:])

    def test_parts_of_ends(self):
        end = (1, ("u", "v"))
        self.right(3, (), (), (end,))
        for at, things in (
            (0, wrong_integers(1) + [-1, 3, 4, 10 ** 39]),
            (1, wrong_tuples(("u", "v")) + [("",), ("u", ""), ("u", None), ("u", 1), ("u", True), ("u", ("v",)), "uv"]),
        ):
            for thing in things:
                self.wrong("ends", 3, (), (), (end[:at] + (thing,) + end[at + 1:],))

    def test_order_of_ends(self):
        self.right(3, (), (), ((0, ("z",)), (1, ()), (2, ("a",))))
        self.wrong("ends", 3, (), (), ((1, ()), (0, ())))
        self.wrong("ends", 3, (), (), ((0, ()), (0, ())))
        self.wrong("ends", 3, (), (), ((0, ()), (0, ("a",))))
        self.wrong("ends", 3, (), (), ((0, ()), (1, ()), (1, ("a",)), (2, ())))

    def test_first_wrong_part_is_told(self):
        wrong = (0, ("",), ((0, "", (), 0),), ((9, ()),))
        right = (2, (), (), ())
        for mask in itertools.product((True, False), repeat=4):
            if any(mask):
                parts = [bad if is_bad else good for is_bad, bad, good in zip(mask, wrong, right)]
                self.wrong(PARTS[mask.index(True)], *parts)

    def test_values_stay(self):
        things = ([1], {"a": [2]}, [(0, "a", (), 0)], [[0, ()]])
        kept = copy.deepcopy(things)
        for at in range(4):
            self.wrong_in(at, things[at])
        self.assertEqual(things, kept)


class Equality(unittest.TestCase):
    def test_equal_attributes(self):
        for parts in [COPY, LOOSE, EMPTY] + random_readers(20, 2):
            self.assertIs(Reader(*parts) == Reader(*copy.deepcopy(parts)), True)
            self.assertIs(Reader(*parts) != Reader(*parts), False)

    def test_each_attribute(self):
        base = (2, ("a",), ((0, "a", (), 1),), ((1, ()),))
        for at, other in enumerate((3, (), (), ())):
            parts = base[:at] + (other,) + base[at + 1:]
            self.assertIs(Reader(*base) == Reader(*parts), False)
            self.assertIs(Reader(*parts) == Reader(*base), False)
            self.assertIs(Reader(*base) != Reader(*parts), True)

    def test_readers_that_write_the_same(self):
        self.assertIs(Reader(1, (), (), ()) == Reader(2, (), (), ()), False)

    def test_any_values(self):
        for parts in (COPY, EMPTY):
            reader = Reader(*parts)
            for thing in any_values() + [parts, list(parts), Floor(MILL), str(parts), 1, (reader,)]:
                self.assertIs(reader == thing, False)
                self.assertIs(thing == reader, False)
                self.assertIs(reader != thing, True)


class Written(unittest.TestCase):
    def test_all_short_tapes(self):
        for parts in [COPY, LOOSE, EMPTY] + random_readers(60, 3):
            reader = Reader(*parts)
            for tape in kinds.tapes_of("abx", 4):
                self.assertEqual(reader.written(tape), kinds.written(parts, tape))
                found = kinds.read(parts, tape)
                self.assertEqual(reader.begun(tape), found and found[0])

    def test_example(self):
        reader = Reader(*COPY)
        self.assertEqual(reader.written(("x", "y", "x")), ("x", "x"))
        self.assertEqual(reader.begun(("x", "y", "x")), ("x", "x"))
        self.assertIsNone(reader.written(("x", "z")))
        self.assertIsNone(reader.begun(("x", "z")))

    def test_first_and_ends(self):
        reader = Reader(*LOOSE)
        self.assertIsNone(reader.written(()))
        self.assertEqual(reader.begun(()), ("f",))
        self.assertEqual(reader.written(("a", "a")), ("f", "x", "y", "w"))
        self.assertEqual(reader.begun(("a", "a")), ("f", "x", "y"))
        self.assertEqual(reader.begun(("b",)), ("f", "z", "z"))
        self.assertIsNone(reader.written(("b",)))
        self.assertIsNone(reader.begun(("b", "a")))
        self.assertIsNone(reader.written(("a", "a", "b")))

    def test_long_tapes(self):
        reader = Reader(*COPY)
        self.assertEqual(reader.written(("x", "y") * 50), ("x",) * 50)
        self.assertEqual(reader.written(("x",) * 3000), ("x",) * 3000)

    def test_marks_of_several_signs(self):
        reader = Reader(1, ("-",), ((0, "a:3,-1", ("3,-1",), 0),), ((0, ("end",)),))
        self.assertEqual(reader.written(("a:3,-1",)), ("-", "3,-1", "end"))
        self.assertIsNone(reader.written(("a", ":", "3")))

    def test_by_name_and_same_again(self):
        reader = Reader(*LOOSE)
        for _ in range(2):
            self.assertEqual(reader.written(marks=("a", "b")), ("f", "x", "w"))
            self.assertEqual(reader.begun(marks=("a", "b")), ("f", "x"))
        self.assertEqual(attributes(reader), LOOSE)


class Least(unittest.TestCase):
    def check(self, parts, marks="ab", ahead=3, behind=4):
        told = kinds.all_written(parts, marks, ahead + behind + 1)
        reader = Reader(*parts)
        found = reader.least()
        self.assertIs(type(found), Reader)
        self.assertEqual(attributes(found), kinds.least_parts(told, marks, ahead, behind), parts)
        self.assertEqual(found.least(), found)
        self.assertEqual(attributes(reader), parts)
        return found

    def test_random_readers(self):
        for parts in random_readers(250, 4):
            self.check(parts)

    def test_random_readers_of_more_marks(self):
        for parts in random_readers(60, 5, writes="x"):
            self.check(parts)
        for parts in random_readers(40, 6, reads="abc", states=2):
            self.check(parts, "abc", 2, 3)

    def test_copy(self):
        self.assertEqual(self.check(COPY, "xy"), Reader(*COPY))

    def test_no_tapes(self):
        for parts in (
            EMPTY, (3, ("a",), (), ()), (2, ("a",), ((0, "a", ("x",), 0),), ((1, ()),)),
            (2, (), ((0, "a", (), 1), (1, "a", (), 0)), ()),
        ):
            self.assertEqual(attributes(self.check(parts)), EMPTY)

    def test_states_that_nothing_leads_to_or_that_lead_to_no_end(self):
        found = self.check(LOOSE)
        self.assertEqual(len(found), 3)

    def test_late_and_early_writing(self):
        late = (3, (), ((0, "a", (), 1), (1, "a", (), 2), (1, "b", ("x",), 2)), ((2, ("x", "y")),))
        found = self.check(late)
        self.assertEqual(attributes(found), (
            3, ("x",), ((0, "a", (), 1), (1, "a", ("y",), 2), (1, "b", ("x", "y"), 2)), ((2, ()),),
        ))
        ends = (1, ("a",), ((0, "m", ("b", "a"), 0),), ((0, ("b",)),))
        self.assertEqual(attributes(self.check(ends, "m")), (1, ("a", "b"), ((0, "m", ("a", "b"), 0),), ((0, ()),)))

    def test_what_is_sure_hangs_on_states_far_away(self):
        for count in (4, 7):
            moves = tuple((state, "b", (), state + 1) for state in range(count - 1))
            for last in ((), ("x",), ("x", "x", "z")):
                ends = tuple((state, ("x", "x", "y")) for state in range(count - 1)) + ((count - 1, last),)
                self.check((count, (), moves, ends), "b", count, count)

    def test_held_back_marks(self):
        parts = (
            3, (), ((0, "a", (), 1), (0, "b", (), 2), (1, "a", ("x",), 1), (2, "a", ("x",), 2)),
            ((1, ("y",)), (2, ())),
        )
        found = self.check(parts)
        self.assertEqual(len(found), 3)

    def test_equal_states_twice(self):
        parts = (
            4, (), ((0, "a", ("x",), 1), (0, "b", ("x",), 2), (1, "a", (), 3), (2, "a", (), 3), (3, "b", (), 0)),
            ((3, ("z",)),),
        )
        self.assertEqual(len(self.check(parts)), 3)
        twice = (2, (), ((0, "a", ("x",), 1), (1, "a", ("x",), 0)), ((0, ()), (1, ())))
        self.assertEqual(attributes(self.check(twice, "a")), (1, (), ((0, "a", ("x",), 0),), ((0, ()),)))
        unlike = (2, (), ((0, "a", ("x",), 1), (1, "a", ("x",), 0)), ((0, ()), (1, ("x",))))
        self.assertEqual(len(self.check(unlike, "a")), 2)

    def test_states_equal_only_if_written_early(self):
        parts = (
            3, (), ((0, "a", ("x",), 1), (0, "b", (), 2), (1, "a", (), 1), (2, "a", ("x",), 1)),
            ((1, ()), (2, ("x",))),
        )
        self.assertEqual(attributes(self.check(parts)), (
            2, ("x",), ((0, "a", (), 1), (0, "b", (), 1), (1, "a", (), 1)), ((1, ()),),
        ))

    def test_numbering_by_first_beginnings(self):
        parts = (
            4, (), ((0, "b", (), 3), (0, "c", (), 1), (1, "a", (), 2), (3, "a", ("x",), 0), (3, "b", (), 2)),
            ((2, ()),),
        )
        found = self.check(parts, "abc", 3, 3)
        self.assertEqual([(state, mark, behind) for state, mark, _, behind in found.moves], [
            (0, "b", 1), (0, "c", 2), (1, "a", 0), (1, "b", 3), (2, "a", 3),
        ])
        # Marks are compared as strings: "10" is ahead of "9".
        numbers = (3, (), ((0, "10", (), 2), (0, "9", (), 1), (1, "9", (), 1)), ((1, ("x",)), (2, ("y",))))
        self.assertEqual([move[3] for move in Reader(*numbers).least().moves], [1, 2, 2])

    def test_great_readers(self):
        # A row of 60 states, each of which ends and writes alike, and one that ends otherwise.
        moves = tuple((state, "m", ("w",), (state + 1) % 60) for state in range(60))
        ends = tuple((state, ("e",)) for state in range(60))
        self.assertEqual(len(Reader(60, (), moves, ends).least()), 1)
        self.assertEqual(len(Reader(60, (), moves, ends[:59]).least()), 60)
        every = tuple((state, ("e",) if state % 3 else ("f",)) for state in range(60))
        self.assertEqual(len(Reader(60, (), moves, every).least()), 3)

    def test_long_writing(self):
        moves = tuple((state, "m", ("w",) * (state % 7), (state + 1) % 60) for state in range(60))
        reader = Reader(60, ("w",) * 40, moves, ((59, ("w",) * 40),))
        found = reader.least()
        self.assertEqual(len(found), 60)
        for length in (59, 119, 179):
            self.assertEqual(found.written(("m",) * length), reader.written(("m",) * length))
        self.assertEqual(found.ends, ((59, ()),))
        self.assertEqual(len(found.first), len(reader.written(("m",) * 59)))


class Then(unittest.TestCase):
    def check(self, one, two, marks="ab", ahead=3, behind=4):
        """Puts two readers behind one another, and compares with what both write for all short tapes."""
        found = Reader(*one).then(Reader(*two))
        told = {}
        for tape, between in kinds.all_written(one, marks, ahead + behind + 1).items():
            row = kinds.written(two, between)
            if row is not None:
                told[tape] = row
        self.assertEqual(attributes(found), kinds.least_parts(told, marks, ahead, behind), (one, two))
        self.assertEqual(found.least(), found)
        return found

    def test_random_readers(self):
        ones = random_readers(150, 7, states=2, writes="xy")
        twos = random_readers(150, 8, states=2, reads="xy", writes="uv")
        for one, two in zip(ones, twos):
            self.check(one, two, ahead=4, behind=5)

    def test_copies(self):
        for parts in random_readers(40, 9, reads="xy", writes="uv"):
            same = (1, (), ((0, "x", ("x",), 0), (0, "y", ("y",), 0)), ((0, ()),))
            self.assertEqual(Reader(*same).then(Reader(*parts)), Reader(*parts).least())
            back = (1, (), ((0, "u", ("u",), 0), (0, "v", ("v",), 0)), ((0, ()),))
            self.assertEqual(Reader(*parts).then(Reader(*back)), Reader(*parts).least())

    def test_marks_that_other_cannot_read(self):
        one = (1, (), ((0, "a", ("x",), 0), (0, "b", ("z",), 0)), ((0, ()),))
        two = (1, (), ((0, "x", ("u",), 0),), ((0, ()),))
        self.assertEqual(attributes(self.check(one, two)), (1, (), ((0, "a", ("u",), 0),), ((0, ()),)))

    def test_first_of_both(self):
        one = (1, ("x", "y"), ((0, "a", ("x",), 0),), ((0, ()),))
        two = (2, ("f",), ((0, "x", ("u",), 1), (1, "x", ("w",), 1), (1, "y", ("v",), 1)), ((1, ("e",)),))
        found = self.check(one, two)
        self.assertEqual(found.written(()), ("f", "u", "v", "e"))
        self.assertEqual(found.written(("a",)), ("f", "u", "v", "w", "e"))

    def test_first_that_other_cannot_read(self):
        one = (1, ("z",), ((0, "a", ("x",), 0),), ((0, ()),))
        two = (1, ("f",), ((0, "x", ("u",), 0),), ((0, ()),))
        self.assertEqual(attributes(self.check(one, two)), EMPTY)

    def test_ends_of_both(self):
        one = (1, (), ((0, "a", ("x",), 0),), ((0, ("y", "x")),))
        two = (2, (), ((0, "x", ("u",), 0), (0, "y", ("v",), 1), (1, "x", (), 1)), ((1, ("e",)),))
        found = self.check(one, two)
        self.assertEqual(found.written(("a",)), ("u", "v", "e"))
        # The second one has no end where it comes to by what the first one writes at its end.
        other = (2, (), ((0, "x", ("u",), 0), (0, "y", ("v",), 1)), ((0, ("e",)), (1, ())))
        self.assertEqual(attributes(self.check(one, other)), EMPTY)
        self.assertEqual(attributes(self.check(one, (1, (), ((0, "x", (), 0),), ((0, ()),)))), EMPTY)

    def test_other_that_ends_nowhere(self):
        one = (1, (), ((0, "a", ("x",), 0),), ((0, ()),))
        self.assertEqual(attributes(self.check(one, (1, (), ((0, "x", (), 0),), ()))), EMPTY)
        self.assertEqual(attributes(self.check((1, (), ((0, "a", ("x",), 0),), ()), one)), EMPTY)

    def test_three_behind_one_another(self):
        ones = random_readers(60, 10, states=2)
        twos = random_readers(60, 11, states=2, reads="xy", writes="uv")
        threes = random_readers(60, 12, states=2, reads="uv", writes="ab")
        for one, two, three in zip(ones, twos, threes):
            first, second, third = Reader(*one), Reader(*two), Reader(*three)
            self.assertEqual(first.then(second).then(third), first.then(second.then(third)))

    def test_great_readers(self):
        # One counts to 20 and the other one to 30; both together come round after 60 marks.
        one = (20, (), tuple((at, "m", ("x",) if at else ("x", "y"), (at + 1) % 20) for at in range(20)), ((0, ()),))
        two = (30, (), tuple(sorted(
            (at, mark, ("z",) if at == 7 and mark == "x" else (), (at + (mark == "x")) % 30)
            for at in range(30) for mark in "xy"
        )), ((0, ()),))
        found = Reader(*one).then(Reader(*two))
        self.assertEqual(len(found), 60)
        self.assertEqual(found.written(("m",) * 60), ("z", "z"))
        self.assertIsNone(found.written(("m",) * 20))

    def test_by_name_and_same_again(self):
        one, two = Reader(*COPY), Reader(*random_readers(1, 13, reads="xy")[0])
        self.assertEqual(one.then(other=two), one.then(two))
        self.assertEqual(attributes(one), COPY)
