"""The examples that the document gives, as far as their modules are built."""

import unittest

from loghouse.floors import Floor
from loghouse.intime import in_time_holds, lag, reader_of
from loghouse.paces import leads, pace_holds
from loghouse.readers import Reader
from loghouse.tapes import written
from loghouse.telling import least_table, least_tellers, tells_holds
from loghouse.values import bounds_hold, judge_bounds, value_behind
from tests.samples import MILL
from tests.yards import MIRRORS

FLOOR = Floor(MILL)


class Examples(unittest.TestCase):
    def test_bounds(self):
        paper = ("within", (((0, 1),),), ((0, (0,)), (0, (1,))))
        self.assertIs(bounds_hold(MILL, paper), True)
        self.assertEqual(judge_bounds(MILL)[0], "within")
        self.assertEqual(len(judge_bounds(MILL)[2]), 2)

    def test_beyond(self):
        paper = ("beyond", "", "ba", "", 0)
        self.assertIs(bounds_hold(MIRRORS, paper), True)
        self.assertEqual([value_behind(MIRRORS, paper, times) for times in range(200)], list(range(200)))

    def test_floor(self):
        self.assertEqual(len(FLOOR), 2)
        self.assertEqual(FLOOR.step(0, "a"), 1)

    def test_tapes(self):
        self.assertEqual(written(FLOOR, "sight0", "aba"), ("0", "a:1", "a:0"))
        self.assertEqual(written(FLOOR, "sight1", "aba"), ("-", "b:-"))
        self.assertEqual(written(FLOOR, "log1-x", "aba"), ("y",))

    def test_pace(self):
        self.assertIs(pace_holds(FLOOR, "log0", "log1", ("drifts", "", "b")), True)
        self.assertEqual(leads(FLOOR, "deeds", "log1"), ((0, 0, 0), (1, 0, 0)))

    def test_telling(self):
        table = ((0, 0, (), (), ()), (1, 1, (), (), ()))
        self.assertEqual(least_table(FLOOR, ("log1",), "log0"), table)
        self.assertIs(tells_holds(FLOOR, ("log1",), "log0", ("tells", table)), True)
        self.assertIs(tells_holds(FLOOR, ("log0",), "log1", ("parts", "b", "")), True)
        self.assertEqual(least_tellers(FLOOR, "deeds"), (("log1",),))

    def test_in_time(self):
        reader = Reader(1, (), ((0, "x", ("x",), 0), (0, "y", (), 0)), ((0, ()),))
        self.assertEqual(reader_of(FLOOR, "log1", "log0"), reader)
        self.assertIs(in_time_holds(FLOOR, "log1", "log0", ("reader", reader)), True)
        self.assertEqual(lag(FLOOR, "log1", "log0"), 0)
