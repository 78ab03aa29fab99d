"""The examples that the document gives."""

import unittest

from loghouse.console import Console
from loghouse.desk import Desk
from loghouse.findings import finding_holds
from loghouse.floors import Floor
from loghouse.hearsay import hearsay_holds, respects
from loghouse.houses import House
from loghouse.intime import in_time_holds, lag, reader_of
from loghouse.paces import leads, pace_holds
from loghouse.policies import Policy
from loghouse.questions import asked_holds, does_answer
from loghouse.readers import Reader
from loghouse.repairs import least_bars, least_blots
from loghouse.slits import view
from loghouse.tapes import written
from loghouse.telling import least_table, least_tellers, tells_holds
from loghouse.values import bounds_hold, judge_bounds, value_behind
from tests.samples import MILL
from tests.yards import MIRRORS

FLOOR = Floor(MILL)


class Examples(unittest.TestCase):
    def test_bounds(self):
        paper = ("within", (((0, 1),),), ((0, (0,)), (0, (1,))))
        self.assertIs(bounds_hold(MILL, paper), True)
        self.assertEqual(judge_bounds(MILL)[0], "within")
        self.assertEqual(len(judge_bounds(MILL)[2]), 2)

    def test_beyond(self):
        paper = ("beyond", "", "ba", "", 0)
        self.assertIs(bounds_hold(MIRRORS, paper), True)
        self.assertEqual([value_behind(MIRRORS, paper, times) for times in range(200)], list(range(200)))

    def test_floor(self):
        self.assertEqual(len(FLOOR), 2)
        self.assertEqual(FLOOR.step(0, "a"), 1)

    def test_tapes(self):
        self.assertEqual(written(FLOOR, "sight0", "aba"), ("0", "a:1", "a:0"))
        self.assertEqual(written(FLOOR, "sight1", "aba"), ("-", "b:-"))
        self.assertEqual(written(FLOOR, "log1-x", "aba"), ("y",))

    def test_pace(self):
        self.assertIs(pace_holds(FLOOR, "log0", "log1", ("drifts", "", "b")), True)
        self.assertEqual(leads(FLOOR, "deeds", "log1"), ((0, 0, 0), (1, 0, 0)))

    def test_telling(self):
        table = ((0, 0, (), (), ()), (1, 1, (), (), ()))
        self.assertEqual(least_table(FLOOR, ("log1",), "log0"), table)
        self.assertIs(tells_holds(FLOOR, ("log1",), "log0", ("tells", table)), True)
        self.assertIs(tells_holds(FLOOR, ("log0",), "log1", ("parts", "b", "")), True)
        self.assertEqual(least_tellers(FLOOR, "deeds"), (("log1",),))

    def test_in_time(self):
        reader = Reader(1, (), ((0, "x", ("x",), 0), (0, "y", (), 0)), ((0, ()),))
        self.assertEqual(reader_of(FLOOR, "log1", "log0"), reader)
        self.assertIs(in_time_holds(FLOOR, "log1", "log0", ("reader", reader)), True)
        self.assertEqual(lag(FLOOR, "log1", "log0"), 0)

    def test_question(self):
        question = ("did", "deeds", "b")
        self.assertIs(does_answer(FLOOR, ("sight0",), question), False)
        self.assertIs(asked_holds(FLOOR, ("sight0",), question, ("parts", "b", "")), True)

    def test_view(self):
        self.assertEqual(
            view((2, 1), ("x", "y", "x")), ("slit", ("x",), ("x",), ((("x", "y"), 1), (("y", "x"), 1))),
        )

    def test_policy(self):
        self.assertIs(respects(FLOOR, Policy(2, ())), True)

    def test_repairs(self):
        self.assertEqual(least_bars(MILL), ("",))
        self.assertEqual(least_bars(MIRRORS), ("a", "b"))
        self.assertEqual(least_blots(FLOOR, "log1", ("did", "log0", "x")), ("x",))

    def test_all_of_it_at_once(self):
        """The same told by calls, as findings, and by the console."""
        text = str(MILL)
        self.assertEqual(House.read(text), MILL)
        for finding in (
            ("bounds", text, ("within", (((0, 1),),), ((0, (0,)), (0, (1,))))), ("bounds", str(MIRRORS), ("beyond", "", "ba", "", 0)),
            ("pace", text, "log0", "log1", ("drifts", "", "b")),
            ("tells", text, ("log1",), "log0", ("tells", ((0, 0, (), (), ()), (1, 1, (), (), ())))),
            ("tells", text, ("log0",), "log1", ("parts", "b", "")), ("lag", text, "log1", "log0", 0),
            ("asked", text, ("sight0",), ("did", "deeds", "b"), ("parts", "b", "")),
        ):
            self.assertIs(finding_holds(finding), True)
        console, desk = Console(), Desk(FLOOR)
        self.assertEqual(console.run("house " + text.replace("\n", ";")), "2")
        for deed in "aba":
            console.run("do " + deed)
            desk.do(deed)
        self.assertEqual(desk.tape("sight0"), ("0", "a:1", "a:0"))
        for command, answer in (
            ("tape sight0", "0 a:1 a:0"), ("tape sight1", "- b:-"), ("tape log1-x", "y"), ("pace log0 log1", "drifts"),
            ("pace deeds log1", "0 0"), ("tells log0 log1", "yes"), ("tells log1 log0", "no"), ("lag log1 log0", "0"),
            ("asks sight0 did deeds b", "no"), ("respects", "yes"),
        ):
            self.assertEqual(console.run(command), answer)
        self.assertIs(hearsay_holds(FLOOR, Policy(2, ()), ("shown", "a", "", 1)), False)
