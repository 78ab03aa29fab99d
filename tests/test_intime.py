"""What can be written in time: readers, drifts, lags."""

import copy
import itertools
import unittest

from loghouse import intime
from loghouse.errors import Drifts, NotTold, NoTape
from loghouse.floors import Floor
from loghouse.intime import in_time, in_time_holds, lag, reader_of
from loghouse.readers import Reader
from loghouse.tapes import tapes
from loghouse.telling import does_tell
from tests import kinds, tellings, walking
from tests.altering import altered, other_values
from tests.listed import check_functions
from tests.samples import BARE, MILL, MILL_PARTS, any_values, attributes, made
from tests.tellings import less, tells_right
from tests.test_paces import APART, FORK, TURNS
from tests.test_readers import attributes as parts_of
from tests.test_tapes import WRONG_NAMES
from tests.walking import run_state, writing
from tests.yards import AT_ONCE, COUNTED, EITHER_HELD_BACK, FIRST_DRIFT, HELD_BACK, LONGER_DEEDS_DRIFT, LONGER_DRIFT
from tests.yards import MIDDLE, NEVER, ONE_WRITES_DRIFT, OTHER_WRITES_DRIFT, QUEUE, UNLIKE_DEEDS_DRIFT, UNLIKE_DRIFT
from tests.yards import LONGER_TURNS_DRIFT, UNLIKE_TURNS_DRIFT, bounded_house
from tests.yards import one_person

DRIFTING = tuple(map(Floor, (
    UNLIKE_DRIFT, LONGER_DRIFT, FIRST_DRIFT, UNLIKE_DEEDS_DRIFT, LONGER_DEEDS_DRIFT, ONE_WRITES_DRIFT,
    OTHER_WRITES_DRIFT, UNLIKE_TURNS_DRIFT, LONGER_TURNS_DRIFT,
)))
NAMED = tuple(map(Floor, (
    MILL, BARE, MIDDLE, TURNS, APART, FORK, QUEUE, HELD_BACK, AT_ONCE, NEVER, EITHER_HELD_BACK, COUNTED,
))) + DRIFTING
RANDOM = tuple(
    floor for floor in (Floor(bounded_house(seed, people=2, logs=2)) for seed in range(70))
    if 2 <= len(floor.useful) < 7
)
FLOOR, QUEUED, HELD = NAMED[0], NAMED[6], NAMED[7]
COPY = Reader(1, (), ((0, "x", ("x",), 0), (0, "y", (), 0)), ((0, ()),))


def names(floor):
    return tapes(floor) + ("deeds-a", "log0-x")[:1 + min(floor.house.logs, 1)]


def told_pairs(floor):
    """All pairs of a tape and one that it tells."""
    return [pair for pair in itertools.product(names(floor), repeat=2) if does_tell(floor, pair[:1], pair[1])]


def closed(floor, tape, other, found):
    """A dict of stands with their writings of the other tape, and those behind deeds that write nothing on the tape."""
    queue = list(found)
    for stand in queue:
        for _, behind, (mark, further) in tellings.steps(floor, (tape, other), stand):
            if not mark and behind not in found:
                found[behind] = found[stand] + tuple(filter(None, [further]))
                queue.append(behind)
    return found


def told_tapes(floor, tape, other, most):
    """For each writing of a tape on some day, of at most so many marks, the writing of the other one."""
    if not floor.useful:
        return {}
    first, begun = writing(floor.house, tape, ""), writing(floor.house, other, "")
    layer = {first: closed(floor, tape, other, {0: begun})}
    told = {}
    while layer:
        further = {}
        for row, found in layer.items():
            for stand in found:
                if floor.is_end(stand):
                    told[row] = found[stand]
                for _, behind, (mark, more) in tellings.steps(floor, (tape, other), stand):
                    if mark and len(row) < most:
                        further.setdefault(row + (mark,), {})[behind] = found[stand] + tuple(filter(None, [more]))
        layer = {row: closed(floor, tape, other, found) for row, found in further.items()}
        if len(layer) > 1500:
            return None
    return told


def is_right_drift(floor, tape, other, words):
    house = floor.house
    if len(words) != 4 or not all(type(word) is str for word in words):
        return False
    run, further, loop, other_loop = words
    for one, two in ((run, loop), (further, other_loop)):
        if run_state(house, one) is None or run_state(house, one + two) is None:
            return False
        if floor.stand_of(one) not in floor.useful or floor.stand_of(one) != floor.stand_of(one + two):
            return False
    if writing(house, tape, run) != writing(house, tape, further):
        return False
    if writing(house, tape, run + loop) != writing(house, tape, further + other_loop):
        return False
    left = less(writing(house, other, run), writing(house, other, further))
    return left != less(writing(house, other, run + loop), writing(house, other, further + other_loop))


def pairs_of_days(floor, tape, other, most):
    """All unlike pairs of writings of both tapes on days of at most so many deeds."""
    return {
        (writing(floor.house, tape, day), writing(floor.house, other, day)) for day in walking.days(floor.house, most)
    }


def is_right_reader(reader, pairs):
    return all(kinds.written(parts_of(reader), row) == further for row, further in pairs)


class Listed(unittest.TestCase):
    def test_functions(self):
        check_functions(self, intime, {
            "in_time": "floor tape other", "reader_of": "floor tape other", "lag": "floor tape other",
            "in_time_holds": "floor tape other thing",
        })


class InTime(unittest.TestCase):
    def check(self, floor, tape, other):
        paper = in_time(floor, tape, other)
        self.assertIs(in_time_holds(floor, tape, other, paper), True)
        if paper[0] == "drifts":
            self.assertTrue(is_right_drift(floor, tape, other, paper[1:]), paper)
            self.assertIsNone(lag(floor, tape, other))
            with self.assertRaises(Drifts) as caught:
                reader_of(floor, tape, other)
            self.assertEqual(caught.exception.paper[0], "drifts")
            self.assertTrue(is_right_drift(floor, tape, other, caught.exception.paper[1:]))
            return
        self.assertEqual(paper, ("reader", reader_of(floor, tape, other)))
        self.assertIs(type(paper[1]), Reader)
        self.assertEqual(paper[1].least(), paper[1])
        self.check_least(floor, tape, other, paper[1])

    def check_least(self, floor, tape, other, reader):
        told = told_tapes(floor, tape, other, 7)
        if told is None:
            return
        marks = sorted({mark for row in told for mark in row})
        for row, further in told.items():
            self.assertEqual(reader.written(row), further)
        if len(reader) < 5:
            self.assertEqual(parts_of(reader), kinds.least_parts(told, marks, 3, 3))

    def test_named_houses(self):
        for floor in NAMED:
            for pair in told_pairs(floor):
                with self.subTest(house=str(floor.house), pair=pair):
                    self.check(floor, *pair)

    def test_random_houses(self):
        for floor in RANDOM:
            for pair in told_pairs(floor):
                with self.subTest(house=str(floor.house), pair=pair):
                    self.check(floor, *pair)

    def test_days(self):
        for floor in NAMED + RANDOM[:8]:
            for tape, other in told_pairs(floor):
                if lag(floor, tape, other) is not None:
                    reader = reader_of(floor, tape, other)
                    for day in walking.days(floor.house, 4):
                        found = reader.written(writing(floor.house, tape, day))
                        self.assertEqual(found, writing(floor.house, other, day))

    def test_only_writings_of_days_are_read(self):
        for floor in NAMED:
            for tape, other in told_pairs(floor)[::3]:
                if lag(floor, tape, other) is None:
                    continue
                told = told_tapes(floor, tape, other, 4)
                reader = reader_of(floor, tape, other)
                marks = {mark for row in told for mark in row}
                for row in kinds.tapes_of(marks, 4 if len(marks) < 4 else 3):
                    self.assertEqual(reader.written(row), told.get(row))

    def test_example(self):
        self.assertEqual(reader_of(FLOOR, "log1", "log0"), COPY)
        self.assertEqual(in_time(FLOOR, "log1", "log0"), ("reader", COPY))
        self.assertEqual(lag(FLOOR, "log1", "log0"), 0)

    def test_held_back(self):
        self.assertEqual(lag(HELD, "log0", "log1"), 1)
        reader = reader_of(HELD, "log0", "log1")
        self.assertEqual(reader.begun(("m",)), ())
        self.assertEqual(reader.begun(("m", "t", "t")), ())
        self.assertEqual(reader.written(("m", "t", "p")), ("x",))
        self.assertEqual(reader.begun(("m", "t", "q")), ("y",))
        self.assertEqual(parts_of(reader), (
            2, (), ((0, "m", (), 1), (1, "p", ("x",), 0), (1, "q", ("y",), 0), (1, "t", (), 1)), ((0, ()),),
        ))

    def test_unlike_marks_held_back_at_the_same_stands(self):
        self.assertEqual(lag(Floor(EITHER_HELD_BACK), "log0", "log1"), 1)
        # Deeds are unlike from the beginning, and the loops write on.
        self.assertIsNone(lag(Floor(EITHER_HELD_BACK), "log0", "deeds"))
        self.assertEqual(lag(Floor(COUNTED), "log0", "log1"), 3)

    def test_written_ahead_of_the_run(self):
        # What follows is sure before the run writes it.
        self.assertEqual(reader_of(QUEUED, "log0", "log1").begun(("x",)), ("x",))
        self.assertEqual(lag(QUEUED, "log0", "log1"), 0)
        self.assertEqual(lag(QUEUED, "log1", "log0"), 2)
        self.assertEqual(lag(QUEUED, "deeds", "log0"), 0)
        self.assertEqual(lag(QUEUED, "log1", "deeds"), 2)
        self.assertEqual(lag(QUEUED, "log0", "sight0"), 0)

    def test_drifts(self):
        for floor in DRIFTING:
            self.assertEqual(in_time(floor, "log0", "log1")[0], "drifts")
            self.assertIsNone(lag(floor, "log0", "log1"))
            self.assertEqual(in_time(floor, "log0", "deeds")[0], "drifts")
            self.assertEqual(in_time(floor, "deeds", "log1")[0], "reader")

    def test_writing_at_the_end_alone(self):
        floor = NAMED[9]
        self.assertEqual(lag(floor, "log0", "log1"), 0)
        self.assertEqual(lag(NAMED[8], "log0", "log1"), 0)

    def test_no_days(self):
        for floor in (Floor(BARE), Floor(made(MILL_PARTS, ends=()))):
            for tape, other in itertools.product(tapes(floor), repeat=2):
                self.assertEqual(parts_of(reader_of(floor, tape, other)), (1, (), (), ()))
                self.assertEqual(lag(floor, tape, other), 0)

    def test_one_tape_twice(self):
        for floor in NAMED + RANDOM[:10]:
            for tape in names(floor):
                reader = reader_of(floor, tape, tape)
                self.assertEqual(lag(floor, tape, tape), 0)
                for day in walking.days(floor.house, 3):
                    row = writing(floor.house, tape, day)
                    self.assertEqual(reader.written(row), row)
                    self.assertEqual(reader.begun(row), row)

    def test_single_days(self):
        # All is sure at the beginning.
        same = ((0, 1),)
        floor = Floor(one_person(
            (0,), (2,), ((0, "a", 1, same, ("x", "y")), (1, "b", 2, same, ("z", "w"))), ((), (), ()), logs=2,
        ))
        self.assertEqual(parts_of(reader_of(floor, "log0", "log1")), (
            3, ("y", "w"), ((0, "x", (), 1), (1, "z", (), 2)), ((2, ()),),
        ))
        self.assertEqual(parts_of(reader_of(floor, "log0-xz", "deeds")), (1, ("a", "b"), (), ((0, ()),)))
        self.assertEqual(parts_of(reader_of(floor, "sight0", "log0")), (
            4, ("x", "z"), ((0, "-", (), 1), (1, "a:-", (), 2), (2, "b:-", (), 3)), ((3, ()),),
        ))
        self.assertEqual(lag(floor, "log0", "log1"), 0)

    def test_lag_by_runs(self):
        for floor in NAMED + RANDOM:
            for tape, other in told_pairs(floor)[::4]:
                number = lag(floor, tape, other)
                if number is None:
                    continue
                reader, house = reader_of(floor, tape, other), floor.house
                behind = [
                    len(writing(house, other, run)) - len(reader.begun(writing(house, tape, run)))
                    for run in walking.runs(house, 5) if floor.stand_of(run) in floor.useful
                ]
                self.assertEqual(max(behind + [0]), number, (str(house), tape, other))

    def test_longer_lags(self):
        # The first log is blotted but for what comes last, which tells what the second one had three marks ago.
        same = ((0, 0, 1), (0, -1, 0))
        floor = Floor(one_person(
            (1, 0), (1,),
            (
                (0, "a", 0, same, ("m", "x")), (0, "b", 0, same, ("m", "y")),
                (0, "c", 1, ((0, 1, 0), (0, 0, 1)), ("e", "")),
            ), (((0, 1, 0),), ()), deeds="abc", logs=2, tests=((0, "c", (0, 0, 1), 1, 1),),
        ))
        self.assertIs(does_tell(floor, ("log0",), "log1"), False)
        self.assertEqual(lag(floor, "deeds", "log1"), 0)
        chain = Floor(one_person(
            (0, 0), (0,),
            (
                (0, "a", 1, ((1, 0, 0), (0, 0, 0)), ("m", "x")), (0, "b", 1, ((2, 0, 0), (0, 0, 0)), ("m", "y")),
                (1, "a", 1, ((0, 1, 0), (1, 0, -1)), ("m", "x")), (1, "b", 2, ((0, 1, 0), (0, 0, 1)), ("m", "x")),
                (2, "a", 0, ((0, 0, 0), (0, 0, 0)), ("p", "")), (2, "b", 0, ((0, 0, 0), (0, 0, 0)), ("q", "")),
            ), ((), (), ()), logs=2, tests=(
                (1, "a", (0, 0, 1), 0, 0), (1, "b", (0, 0, 1), 1, 1),
                (2, "a", (0, 1, 0), 1, 1), (2, "b", (0, 1, 0), 2, 2),
            ),
        ))
        self.assertEqual(lag(chain, "log0", "log1"), 3)
        self.assertEqual(reader_of(chain, "log0", "log1").begun(("m", "m", "m")), ())
        self.assertEqual(reader_of(chain, "log0", "log1").written(("m", "m", "m", "q")), ("y", "x", "x"))
        for pair in told_pairs(chain):
            self.check(chain, *pair)

    def test_by_name(self):
        self.assertEqual(in_time(other="log0", tape="log1", floor=FLOOR), ("reader", COPY))
        self.assertEqual(reader_of(other="log0", tape="log1", floor=FLOOR), COPY)
        self.assertEqual(lag(other="log0", tape="log1", floor=FLOOR), 0)
        self.assertIs(in_time_holds(thing=("reader", COPY), other="log0", tape="log1", floor=FLOOR), True)

    def test_same_again(self):
        ahead = copy.deepcopy(attributes(QUEUE))
        for floor in NAMED:
            for pair in told_pairs(floor):
                self.assertEqual(in_time(floor, *pair), in_time(floor, *pair))
        self.assertEqual(attributes(QUEUE), ahead)


class Holds(unittest.TestCase):
    def holds(self, floor, tape, other, paper, right):
        self.assertIs(in_time_holds(floor, tape, other, paper), right, paper)

    def test_readers_that_are_not_least(self):
        twice = Reader(
            2, (), ((0, "x", ("x",), 1), (0, "y", (), 0), (1, "x", ("x",), 0), (1, "y", (), 1)), ((0, ()), (1, ())),
        )
        more = Reader(3, (), ((0, "x", ("x",), 0), (0, "y", (), 0), (0, "z", ("q",), 2), (1, "x", (), 1)), ((0, ()),))
        late = Reader(
            2, (), ((0, "x", (), 1), (0, "y", (), 0), (1, "x", ("x",), 1), (1, "y", (), 1)), ((0, ()), (1, ("x",))),
        )
        for reader in (COPY, twice, more, late):
            self.holds(FLOOR, "log1", "log0", ("reader", reader), True)
        for reader in (COPY, more):
            self.holds(FLOOR, "log0", "log0", ("reader", reader), True)
            self.holds(FLOOR, "log1", "log1", ("reader", reader), False)
            self.holds(FLOOR, "log1", "deeds", ("reader", reader), False)

    def test_readers_that_write_early(self):
        # The sure part may be written later, but no mark that is not sure may be written.
        reader = Reader(2, (), ((0, "m", ("x",), 1), (1, "p", (), 0), (1, "q", ("y",), 0), (1, "t", (), 1)), ((0, ()),))
        self.holds(HELD, "log0", "log1", ("reader", reader), False)

    def test_changed_readers(self):
        for floor in NAMED + RANDOM[:4]:
            for tape, other in told_pairs(floor)[::5]:
                paper = in_time(floor, tape, other)
                if paper[0] == "drifts" or len(paper[1]) > 4 or len(floor) > 5:
                    continue
                pairs = pairs_of_days(floor, tape, other, 6)
                for parts in list(other_values(parts_of(paper[1])))[::3]:
                    try:
                        reader = Reader(*parts)
                    except Exception:
                        continue
                    right = is_right_reader(reader, pairs)
                    self.holds(floor, tape, other, ("reader", reader), right)

    def test_mark_more_less_or_another_one(self):
        for parts in (
            (1, ("x",), COPY.moves, COPY.ends), (1, (), ((0, "x", ("x", "x"), 0), (0, "y", (), 0)), COPY.ends),
            (1, (), ((0, "x", (), 0), (0, "y", (), 0)), COPY.ends), (1, (), COPY.moves, ((0, ("x",)),)),
            (1, (), ((0, "x", ("y",), 0), (0, "y", (), 0)), COPY.ends), (1, (), COPY.moves[:1], COPY.ends),
            (1, (), COPY.moves[1:], COPY.ends), (1, (), COPY.moves, ()), (1, (), (), COPY.ends),
            (1, (), ((0, "x", ("x",), 0), (0, "y", ("y",), 0)), COPY.ends),
            (2, (), ((0, "x", ("x",), 1), (0, "y", (), 0), (1, "x", ("x",), 0)), ((0, ()), (1, ()))),
            (2, (), ((0, "x", ("x",), 1), (0, "y", (), 0), (1, "x", ("x",), 0), (1, "y", (), 0)), ((0, ()),)),
        ):
            self.holds(FLOOR, "log1", "log0", ("reader", Reader(*parts)), False)

    def test_sights(self):
        for tape, other in told_pairs(FLOOR):
            reader = reader_of(FLOOR, tape, other)
            self.holds(FLOOR, tape, other, ("reader", reader), True)
            more = Reader(len(reader), reader.first + ("0",), reader.moves, reader.ends)
            self.holds(FLOOR, tape, other, ("reader", more), False)

    def test_no_days(self):
        floor = Floor(BARE)
        for reader in (COPY, Reader(1, (), (), ()), Reader(3, ("q",), (), ((2, ("w",)),))):
            for pair in itertools.product(tapes(floor), repeat=2):
                self.holds(floor, *pair, ("reader", reader), True)
        self.holds(floor, "deeds", "sight0", ("drifts", "", "", "", ""), False)

    def test_drifts_by_hand(self):
        floor = DRIFTING[0]
        for words, right in (
            (("a", "b", "c", "c"), True), (("b", "a", "c", "c"), True), (("ac", "bc", "cc", "cc"), True),
            (("a", "b", "", ""), False), (("a", "b", "c", ""), False), (("a", "b", "c", "cc"), False),
            (("", "", "", ""), False), (("a", "a", "c", "c"), False), (("a", "bc", "c", "c"), False),
            (("a", "b", "d", "d"), False), (("adb", "ada", "c", "c"), True), (("adb", "bdb", "c", "c"), False),
            (("adb", "bda", "c", "c"), False), (("a", "b", "daa", "dbb"), False), (("a", "b", "da", "db"), False),
            (("c", "b", "c", "c"), False), (("a", "b", "e", "e"), False), (("acc", "bcc", "c", "c"), True),
        ):
            self.assertIs(is_right_drift(floor, "log0", "log1", words), right, words)
            self.holds(floor, "log0", "log1", ("drifts",) + words, right)
            self.holds(floor, "deeds", "log1", ("drifts",) + words, False)

    def test_drift_with_one_empty_loop(self):
        # One of the runs writes on the other tape while the other run stands still.
        same = ((0, 1),)
        floor = Floor(one_person(
            (0,), (0,),
            (
                (0, "a", 1, same, ("m", "")), (0, "b", 2, same, ("m", "")),
                (1, "c", 1, same, ("", "")), (1, "d", 0, same, ("p", "x")), (2, "d", 0, same, ("q", "y")),
            ), ((), (), ()), deeds="abcd", logs=2,
        ))
        self.assertIs(does_tell(floor, ("log0",), "log1"), True)
        for words in (("a", "b", "c", ""), ("ac", "b", "c", ""), ("a", "b", "", "")):
            self.assertIs(is_right_drift(floor, "log0", "log1", words), False)
            self.holds(floor, "log0", "log1", ("drifts",) + words, False)
        self.assertEqual(lag(floor, "log0", "log1"), 0)

    def test_stands_that_are_not_useful(self):
        # The same loops at places from which no day is reached.
        same = ((0, 1),)
        floor = Floor(one_person(
            (0,), (0,),
            (
                (0, "a", 1, same, ("m", "")), (0, "b", 2, same, ("m", "")), (0, "c", 0, same, ("x", "x")),
                (1, "c", 1, same, ("t", "x")), (2, "c", 2, same, ("t", "y")),
            ), ((), (), ()), deeds="abc", logs=2,
        ))
        self.holds(floor, "log0", "log1", ("drifts", "a", "b", "c", "c"), False)
        self.assertEqual(parts_of(reader_of(floor, "log0", "log1")), (1, (), ((0, "x", ("x",), 0),), ((0, ()),)))

    def test_altered_drifts(self):
        for floor in DRIFTING:
            paper = in_time(floor, "log0", "log1")
            for thing in altered(paper):
                right = (
                    type(thing) is tuple and len(thing) == 5 and type(thing[0]) is str and thing[0] == "drifts"
                    and is_right_drift(floor, "log0", "log1", thing[1:])
                )
                self.holds(floor, "log0", "log1", thing, right)

    def test_all_short_drifts(self):
        words = list(walking.strings(UNLIKE_DRIFT, 1)) + ["ac", "bc", "ad", "bd", "da"]
        for floor in DRIFTING[:2] + (HELD,):
            for four in itertools.product(words[:4] + words[5:7], words[:4] + words[5:7], words, words):
                self.holds(floor, "log0", "log1", ("drifts",) + four, is_right_drift(floor, "log0", "log1", four))

    def test_not_told(self):
        for paper in (("reader", COPY), ("drifts", "a", "b", "c", "c"), ("parts", "b", ""), None):
            self.holds(FLOOR, "log0", "log1", paper, False)
            self.holds(FLOOR, "log0", "deeds", paper, False)
            self.holds(DRIFTING[0], "log0-pq", "log1", paper, False)

    def test_any_values(self):
        things = any_values() + [
            COPY, FLOOR, "reader", "drifts", ("reader",), ("drifts",), ["reader", COPY], ("reader", COPY, COPY),
            ("drifts", COPY), ("reader", parts_of(COPY)), ("reader", "a", "b", "c", "c"), (COPY, "reader"),
            ("drifts", "a", "b", "c"), ("drifts", "a", "b", "c", "c", "c"), ("drifts", ("a", "b", "c", "c")),
        ]
        for thing in things:
            for floor, tape, other in ((FLOOR, "log1", "log0"), (DRIFTING[0], "log0", "log1")):
                self.holds(floor, tape, other, thing, False)
                self.holds(floor, tape, other, ("reader", thing), thing is COPY and floor is FLOOR)
                for at in range(1, 5):
                    paper = ("drifts", "a", "b", "c", "c")
                    paper = paper[:at] + (thing,) + paper[at + 1:]
                    self.holds(floor, tape, other, paper, is_right_drift(floor, tape, other, paper[1:]))

    def test_thing_stays(self):
        thing = ("drifts", ["a"], {"b": [1]}, "c", "c")
        kept = copy.deepcopy(thing)
        in_time_holds(FLOOR, "log1", "log0", thing)
        self.assertEqual(thing, kept)


class Refused(unittest.TestCase):
    CALLS = (in_time, reader_of, lag)

    def test_no_tape(self):
        calls = self.CALLS + (lambda floor, tape, other: in_time_holds(floor, tape, other, ("reader", COPY)),)
        for thing in WRONG_NAMES + tuple(any_values()):
            for call in calls:
                for pair in ((thing, "log1"), ("log0", thing), (thing, thing), (thing, 7), (thing, "log7")):
                    with self.assertRaises(NoTape) as caught:
                        call(FLOOR, *pair)
                    self.assertIs(caught.exception.thing, thing)

    def test_not_told(self):
        for floor in NAMED + RANDOM[:10]:
            for tape, other in itertools.product(names(floor), repeat=2):
                if does_tell(floor, (tape,), other):
                    continue
                for call in self.CALLS:
                    with self.assertRaises(NotTold) as caught:
                        call(floor, tape, other)
                    paper = caught.exception.paper
                    self.assertEqual(paper[0], "parts")
                    self.assertTrue(tells_right(floor, (tape,), other, paper), paper)

    def test_not_told_comes_ahead_of_drifts(self):
        # Drifts are there, too, if what tells at last is blotted.
        self.assertTrue(is_right_drift(DRIFTING[0], "log0-pq", "log1", ("a", "b", "c", "c")))
        with self.assertRaises(NotTold):
            reader_of(DRIFTING[0], "log0-pq", "log1")
        with self.assertRaises(NotTold):
            lag(DRIFTING[0], "log0-pq", "log1")
        with self.assertRaises(Drifts):
            reader_of(DRIFTING[0], "log0", "log1")
