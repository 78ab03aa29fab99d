"""The console: each command with its answers, errors and their order."""

import itertools
import random
import unittest

from loghouse import console as module
from loghouse.console import Console
from loghouse.desk import Desk
from loghouse.errors import CannotDo, InvalidCommand, NoHouse, NoPace, NotTold, NothingToRedo, NothingToUndo
from loghouse.floors import Floor
from loghouse.hearsay import respects
from loghouse.intime import lag
from loghouse.paces import keep_pace, leads
from loghouse.policies import Policy
from loghouse.questions import does_answer, question_text
from loghouse.tapes import tapes
from loghouse.telling import does_tell
from tests import answering, walking
from tests.asks import several
from tests.crowds import CARRIED, LOCKED, RACE, TESTED
from tests.listed import check_methods
from tests.papers import pace_right
from tests.samples import BARE, MILL, MILL_PARTS, MILL_TEXT, any_values, made
from tests.tellings import tells_right
from tests.test_paces import APART, FORK, TURNS
from tests.test_tapes import CROWD, WRONG_NAMES
from tests.yards import AT_ONCE, HELD_BACK, LONGER_DRIFT, MIRRORS, QUEUE, UNBOUNDED, bounded_house

HOUSES = (MILL, BARE, CROWD, TURNS, APART, FORK, HELD_BACK, AT_ONCE, LONGER_DRIFT, QUEUE, LOCKED, RACE, TESTED) + tuple(
    house for house in (bounded_house(seed, people=2, logs=2) for seed in range(40)) if 2 <= len(Floor(house)) < 7
)[:8]
FLOOR = Floor(MILL)


def house_command(house):
    return "house " + str(house).replace("\n", ";")


def console_with(house, *commands):
    console = Console()
    console.run(house_command(house))
    for command in commands:
        console.run(command)
    return console


# A command of each form that is right for MILL, if a deed was done and one was taken back.
RIGHT = (
    house_command(MILL), "do a", "undo", "redo", "tape log1", "sure log1 did deeds b", "pace deeds log1",
    "tells log0 log1", "lag log1 log0", "asks log1 did deeds b", "hears 0 1", "respects",
)


class Listed(unittest.TestCase):
    def test_methods(self):
        check_methods(self, Console, {"__init__": "", "run": "command"})
        self.assertEqual(Console.__module__, module.__name__)


class Answers(unittest.TestCase):
    def answers(self, console, *rows):
        for command, answer in rows:
            self.assertEqual(console.run(command), answer, command)

    def test_known(self):
        self.answers(
            Console(), (house_command(MILL), "2"), ("tape deeds", "."), ("tape sight0", "0"), ("do a", "ok"), ("do b", "ok"),
            ("tape deeds", "a b"), ("tape log0", "x"), ("tape log1", "x y"), ("tape log1-x", "y"), ("tape log1-xy", "."),
            ("tape sight0", "0 a:1"), ("undo", "ok"), ("tape deeds", "a"), ("redo", "ok"), ("tape deeds", "a b"),
            ("sure log0 did deeds a", "yes"), ("sure log0 did deeds b", "unsure"), ("sure log0 not did deeds a", "no"),
            ("pace log0 log1", "drifts"), ("pace deeds log1", "0 0"), ("pace sight0 log0", "1 1"), ("pace log0 sight0", "-1 -1"),
            ("tells log0 log1", "yes"), ("tells log1 log0", "no"), ("tells log0 log0", "yes"), ("tells log1 log1 deeds", "yes"),
            ("lag log1 log0", "0"), ("lag deeds deeds", "0"), ("asks log1 did log0 x", "yes"), ("asks log0 did deeds b", "no"),
            ("asks sight1 sees 1 -", "yes"), ("hears 0 1", "ok"), ("hears 0 1", "ok"), ("hears 1 1", "ok"), ("respects", "yes"),
        )

    def test_leads_that_are_not_one(self):
        self.answers(console_with(FORK), ("pace log0 log1", "-1 2"), ("pace log1 log0", "-2 1"), ("pace log0 log0", "0 0"))

    def test_no_useful_stands(self):
        for house in (BARE, made(MILL_PARTS, ends=())):
            self.answers(
                console_with(house), ("pace deeds sight0", "none"), ("tells deeds sight0", "yes"), ("lag deeds sight0", "0"),
                ("asks deeds did deeds a", "yes"),
            )

    def test_endless_lag(self):
        self.answers(console_with(LONGER_DRIFT), ("lag log0 log1", "endless"), ("tells log1 log0", "yes"))
        self.answers(console_with(HELD_BACK), ("lag log0 log1", "1"))

    def test_hears(self):
        self.answers(
            console_with(CARRIED), ("respects", "no"), ("hears 1 2", "ok"), ("respects", "no"), ("hears 0 0", "ok"),
            ("respects", "no"), ("hears 0 1", "ok"), ("respects", "yes"), ("hears 2 0", "ok"), ("respects", "yes"),
        )
        # Who hears whom is no matter of both ways.
        self.answers(console_with(LOCKED), ("hears 1 0", "ok"), ("respects", "no"), ("hears 0 1", "ok"), ("respects", "yes"))

    def test_new_house(self):
        console = console_with(CARRIED, "hears 0 1", "hears 1 2", "do a", "do b", "undo")
        self.answers(
            console, ("respects", "yes"), (house_command(CARRIED), str(len(Floor(CARRIED)))), ("tape deeds", "."),
            ("respects", "no"),
        )
        self.assertRaises(NothingToRedo, console.run, "redo")
        self.assertRaises(NothingToUndo, console.run, "undo")
        self.answers(console, (house_command(MILL), "2"), ("do b", "ok"), ("respects", "yes"), ("tape log1", "y"))

    def test_house_beyond_bounds(self):
        for house in UNBOUNDED:
            console = console_with(CARRIED, "hears 0 1", "hears 1 2", "do a", "do b", "undo")
            self.answers(
                console, (house_command(house), "beyond"), ("tape deeds", "a"), ("respects", "yes"), ("redo", "ok"),
                ("tape deeds", "a b"),
            )
            console = Console()
            self.answers(console, (house_command(house), "beyond"))
            self.assertRaises(NoHouse, console.run, "respects")
            self.answers(console, (house_command(MILL), "2"))

    def test_stands(self):
        for house in HOUSES:
            self.answers(Console(), (house_command(house), str(len(Floor(house)))))

    def test_two_consoles(self):
        one, other = console_with(MILL, "do a"), Console()
        self.assertRaises(NoHouse, other.run, "tape deeds")
        other.run(house_command(MILL))
        self.answers(other, ("tape deeds", "."), ("do b", "ok"), ("hears 0 1", "ok"))
        self.answers(one, ("tape deeds", "a"))

    def test_by_name(self):
        self.assertEqual(Console().run(command=house_command(MILL)), "2")


class Calls(unittest.TestCase):
    """What the calls tell and what the console answers, alike."""

    def test_tapes(self):
        for house in HOUSES:
            floor, console = Floor(house), console_with(house)
            for tape, other in itertools.product(tapes(floor) + ("deeds-a",), repeat=2):
                if not keep_pace(floor, tape, other):
                    self.assertEqual(console.run(f"pace {tape} {other}"), "drifts")
                else:
                    bounds = leads(floor, tape, other)
                    wanted = f"{min(row[1] for row in bounds)} {max(row[2] for row in bounds)}" if bounds else "none"
                    self.assertEqual(console.run(f"pace {tape} {other}"), wanted)
                told = does_tell(floor, (tape,), other)
                self.assertEqual(console.run(f"tells {other} {tape}"), "yes" if told else "no")
                if told:
                    number = lag(floor, tape, other)
                    self.assertEqual(console.run(f"lag {tape} {other}"), "endless" if number is None else str(number))
                else:
                    with self.assertRaises(NotTold) as caught:
                        console.run(f"lag {tape} {other}")
                    self.assertTrue(tells_right(floor, (tape,), other, caught.exception.paper))

    def test_rows(self):
        for house in HOUSES[:9]:
            floor, console = Floor(house), console_with(house)
            for row in list(itertools.permutations(tapes(floor), 2)) + list(itertools.permutations(tapes(floor), 3))[::5]:
                command = " ".join(("tells", tapes(floor)[-1]) + row)
                lacking = [other for other in row[1:] if not keep_pace(floor, row[0], other)]
                if lacking:
                    with self.assertRaises(NoPace) as caught:
                        console.run(command)
                    self.assertTrue(pace_right(floor, row[0], lacking[0], caught.exception.paper))
                else:
                    told = does_tell(floor, row, tapes(floor)[-1])
                    self.assertEqual(console.run(command), "yes" if told else "no")

    def test_questions(self):
        for house in HOUSES:
            floor, console, desk = Floor(house), console_with(house), Desk(Floor(house))
            run = next((run for run in walking.runs(house, 3) if len(run) == 3), "")
            for deed in run:
                console.run("do " + deed)
                desk.do(deed)
            for question in several(floor, 25):
                for tape in tapes(floor):
                    told = does_answer(floor, (tape,), question)
                    self.assertEqual(console.run(f"asks {tape} {question_text(question)}"), "yes" if told else "no")
                    sure = desk.sure((tape,), question)
                    wanted = {True: "yes", False: "no", None: "unsure"}[sure]
                    self.assertEqual(console.run(f"sure {tape} {answering.text(question)}"), wanted)

    def test_desk(self):
        for seed, house in enumerate(HOUSES):
            dice, console, desk = random.Random(seed), console_with(house), Desk(Floor(house))
            for _ in range(120):
                word = dice.choice(("do", "do", "do", "undo", "redo"))
                letter = dice.choice(walking.letters(house))
                command = f"do {letter}" if word == "do" else word
                try:
                    {"do": lambda: desk.do(letter), "undo": desk.undo, "redo": desk.redo}[word]()
                except (CannotDo, NothingToUndo, NothingToRedo) as error:
                    with self.assertRaises(type(error)) as caught:
                        console.run(command)
                    self.assertEqual(vars(caught.exception), vars(error))
                else:
                    self.assertEqual(console.run(command), "ok")
                for tape in tapes(Floor(house))[:2]:
                    self.assertEqual(console.run("tape " + tape), " ".join(desk.tape(tape)) or ".")

    def test_policies(self):
        for house in HOUSES:
            floor, console = Floor(house), console_with(house)
            policy = Policy(house.people, ())
            for heard, hearer in itertools.product(range(house.people), repeat=2):
                self.assertEqual(console.run("respects"), "yes" if respects(floor, policy) else "no")
                self.assertEqual(console.run(f"hears {heard} {hearer}"), "ok")
                if heard != hearer:
                    policy = policy | Policy(house.people, ((heard, hearer),))
            self.assertEqual(console.run("respects"), "yes")


class Errors(unittest.TestCase):
    def refused(self, console, command, error=InvalidCommand):
        with self.assertRaises(error) as caught:
            console.run(command)
        self.assertIs(type(caught.exception), error, command)

    def worked(self):
        return console_with(MILL, "do a", "do b", "undo", "hears 0 1")

    def unchanged(self, console):
        self.assertEqual(console.run("tape deeds"), "a")
        self.assertEqual(console.run("redo"), "ok")
        self.assertEqual(console.run("tape deeds"), "a b")
        self.assertEqual(console.run("undo"), "ok")

    def test_no_commands(self):
        for command in any_values() + [
            b"undo", ["undo"], ("do", "a"), MILL, "", " ", "Undo", "UNDO", "undo\n", "\nundo", "undo\tx", " undo", " do a",
            "undos", "und", "doa", "do\na", "hous", "houses", "house\npeople 1", "look", "tell log0 log1", "lags", "hear 0 1",
            "respect", "desk", "done", "stand", "do;a", "quit", "house;people 2", "paces", "ask deeds did deeds a", "Do a",
        ]:
            for console in (Console(), self.worked()):
                self.refused(console, command)

    def test_no_house(self):
        for command in RIGHT[1:]:
            self.refused(Console(), command, NoHouse)
        # Whatever form they have, if the first word, up to the first blank, is right.
        for command in RIGHT[1:]:
            word = command.split(" ")[0]
            for other in (word + " ", word + "  ", word + " x", word + " \n", word + " x" * 9, command + " "):
                self.refused(Console(), other, NoHouse)
            if command != word:
                self.refused(Console(), word, NoHouse)
                self.refused(Console(), command + "\n", NoHouse)
            else:
                self.refused(Console(), command + "\n")

    def test_houses_refused(self):
        lines = MILL_TEXT.split("\n")
        texts = [
            "", " ", ";", "people 2", MILL_TEXT + "\n", "\n" + MILL_TEXT, MILL_TEXT.replace("\n", ";") + ";",
            MILL_TEXT.replace("\n", ";;"), MILL_TEXT.replace("\n", "; "), MILL_TEXT, MILL_TEXT.replace("\n", ",", 1),
            " " + MILL_TEXT.replace("\n", ";"), MILL_TEXT.replace("\n", ";") + " ", MILL_TEXT.replace("\n", ";", 3),
            MILL_TEXT.replace("people 2", "people 4").replace("\n", ";"), MILL_TEXT.replace("\n", " ; "),
            MILL_TEXT.replace("deed b", "deed a").replace("\n", ";"), MILL_TEXT.replace("\n", ";").replace(" ", "  ", 1),
            MILL_TEXT.replace("\n", ";").upper(), MILL_TEXT.replace("places 1", "places 1\nplaces 1").replace("\n", ";"),
        ]
        for at in range(len(lines)):
            if not lines[at].startswith(("arrow", "look", "deed")):
                texts.append(";".join(lines[:at] + lines[at + 1:]))
            texts.append(";".join(lines[:at + 1] + lines[at:]))
            if at + 1 < len(lines):
                texts.append(";".join(lines[:at] + [lines[at + 1], lines[at]] + lines[at + 2:]))
        for text in texts:
            self.refused(Console(), "house " + text)
            console = self.worked()
            self.refused(console, "house " + text)
            self.unchanged(console)
        self.refused(Console(), "house")
        self.refused(self.worked(), "house")

    def test_blanks_and_line_feeds(self):
        for command in RIGHT[1:]:
            for other in (
                command + " ", command + "\n", command + "  ", command.replace(" ", "  ", 1) if " " in command else command + " x",
                command.replace(" ", "\n", 2) if command.count(" ") > 1 else command + " \n", command + " ;",
            ):
                console = self.worked()
                self.refused(console, other)
                self.unchanged(console)

    def test_words_left_out_or_more(self):
        for command in RIGHT[1:]:
            words = command.split(" ")
            for count in range(1, len(words)):
                if command.startswith("tells") and count == 3:
                    continue
                console = self.worked()
                self.refused(console, " ".join(words[:count]))
                self.unchanged(console)
            if words[0] != "tells":
                for more in (" x", " a", " deeds", " 0", " did deeds a"):
                    console = self.worked()
                    self.refused(console, command + more)
                    self.unchanged(console)

    def test_deeds(self):
        for word in ("c", "A", "ab", "a,b", "-", "0", "deeds", "a\n", "", " a", "a b"):
            self.refused(self.worked(), "do " + word)

    def test_tapes(self):
        for name in WRONG_NAMES:
            if name.count(" ") or name in ("deeds", "log0", "log1"):
                continue
            for command in (
                "tape {}", "pace {} deeds", "pace deeds {}", "tells {} deeds", "tells deeds {}", "tells log0 deeds {}",
                "lag {} deeds", "lag deeds {}", "asks {} did deeds a", "sure {} did deeds a", "asks deeds did {} a",
            ):
                self.refused(self.worked(), command.format(name))

    def test_tape_twice(self):
        for command in ("tells log0 deeds deeds", "tells deeds log1 deeds log1", "tells log0 log0 log0", "tells log0 log1 log1"):
            self.refused(self.worked(), command)
        self.assertEqual(self.worked().run("tells log1 log1"), "yes")
        self.assertEqual(self.worked().run("tells log1 log1 deeds"), "yes")

    def test_people(self):
        for words in ("0 2", "2 0", "-1 0", "0 -0", "00 1", "0 01", "+0 1", "a b", "0 1 1", "0,1", "0", "", "0 x", "0 " + "9" * 41):
            self.refused(self.worked(), "hears " + words)

    def test_questions(self):
        for text in (
            "", "did", "did deeds", "did log9 x", "did deeds a b", "sees 2 -", "sees 0", "sees 0 01", "not", "both did deeds a",
            "not not not not did deeds a", "did  deeds a", "Did deeds a", "did deeds a ", "did deeds a\n", "yes", "sees 1 +1",
            "did deeds " + "x" * 101,
        ):
            for word in ("asks deeds ", "sure deeds "):
                self.refused(self.worked(), word + text)

    def test_errors_of_calls(self):
        console = console_with(MILL)
        self.refused(console, "undo", NothingToUndo)
        self.refused(console, "redo", NothingToRedo)
        self.refused(console, "tells deeds log0 log1", NoPace)
        self.refused(console, "lag log0 log1", NotTold)
        console = console_with(LOCKED)
        with self.assertRaises(CannotDo) as caught:
            console.run("do b")
        self.assertEqual(caught.exception.deed, "b")

    def test_order(self):
        """What a line has wrong in two ways is told as the first one of both."""
        # A wrong form comes ahead of what the calls say.
        console = console_with(MILL)
        for command in (
            "undo x", "redo x", "undo ", "tells deeds log0 log1 log1", "tells deeds log0 log1 log9", "tells log9 log0 log1",
            "lag log0 log1 ", "lag log0 log9", "do c", "do b b",
        ):
            self.refused(console, command)
        # No house comes ahead of a wrong form, what is no command ahead of both; and a house that is none is no command.
        for command, error in (
            ("undo x", NoHouse), ("do", NoHouse), ("do A", NoHouse), ("tells", NoHouse), ("hears 9 9", NoHouse),
            ("asks log9 x", NoHouse), ("undos", InvalidCommand), ("house", InvalidCommand), ("house x", InvalidCommand),
            (" undo", InvalidCommand), ("tape deeds\n", NoHouse), ("undo\n", InvalidCommand), (None, InvalidCommand),
        ):
            self.refused(Console(), command, error)

    def test_refused_changes_nothing(self):
        for command in (
            "do c", "undo x", "redo x", "hears 0 2", "hears 1", "tape log9", "tells deeds log0 log1", "lag log0 log1",
            "sure log0 x", "asks log0 x", "house x", "x", None, "pace deeds", "respects x",
        ):
            console = self.worked()
            with self.assertRaises(Exception):
                console.run(command)
            self.unchanged(console)
        console = console_with(LOCKED, "do a", "undo")
        self.refused(console, "do b", CannotDo)
        self.assertEqual(console.run("redo"), "ok")
        self.assertEqual(console.run("tape deeds"), "a")


if __name__ == "__main__":
    unittest.main()
