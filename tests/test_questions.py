"""Questions: what is one, answers, texts, papers that rows of tapes tell them."""

import copy
import itertools
import unittest

from loghouse import questions as module
from loghouse.errors import BadQuestion, NoPace, NoTape
from loghouse.floors import Floor
from loghouse.paces import keep_pace
from loghouse.questions import answer, asked, asked_holds, does_answer, is_fixed, is_question, question_in
from loghouse.questions import question_text
from loghouse.tapes import tapes
from tests import answering, walking
from tests.altering import altered, same
from tests.answering import asked_right, is_right_question
from tests.asks import DID, deeper, several, simple
from tests.listed import check_functions
from tests.papers import pace_right
from tests.samples import BARE, MILL, MILL_PARTS, any_values, attributes, made
from tests.test_paces import APART, FORK, TURNS
from tests.test_tapes import CROWD, WRONG_NAMES
from tests.test_telling import rows
from tests.yards import AT_ONCE, CUBE, HELD_BACK, MIDDLE, NEVER, QUEUE, bounded_house, one_person

HOUSES = (MILL, BARE, CROWD, TURNS, APART, FORK, QUEUE, HELD_BACK, AT_ONCE, NEVER) + tuple(
    house for house in (bounded_house(seed, people=2, logs=2) for seed in range(40))
    if 2 <= len(Floor(house).useful) < 7
)
FLOORS = tuple(map(Floor, HOUSES))
FLOOR, CROWDED, FORKED, QUEUED = FLOORS[0], FLOORS[2], FLOORS[5], FLOORS[6]

# One of each form, and forms within forms, up to four tuples.
SOME = (
    DID, ("did", "log1-xz", "x"), ("did", "sight0", "a:1"), ("sees", 1, ()), ("sees", 0, (1,)), ("sees", 0, (-7, 0, 12)),
    ("not", DID), ("both", DID, ("sees", 0, (0,))), ("either", ("not", DID), ("did", "log0", "x")),
    ("not", ("both", ("either", DID, ("sees", 1, ())), ("not", ("did", "log1", "y")))),
)
TEXTS = (
    (DID, "did deeds a"), (("did", "log1-xz", "x"), "did log1-xz x"), (("did", "sight0", "a:1"), "did sight0 a:1"),
    (("sees", 1, ()), "sees 1 -"), (("sees", 0, (-7, 0, 12)), "sees 0 -7,0,12"), (("not", DID), "not did deeds a"),
    (("both", DID, ("sees", 0, (0,))), "both did deeds a sees 0 0"),
    (("either", ("not", ("did", "log0", "not")), ("both", ("sees", 1, (-1,)), ("did", "deeds", "either"))),
     "either not did log0 not both sees 1 -1 did deeds either"),
)


class Listed(unittest.TestCase):
    def test_functions(self):
        check_functions(self, module, {
            "is_question": "floor thing", "answer": "floor question run", "is_fixed": "floor question",
            "question_text": "question", "question_in": "floor text", "asked": "floor row question",
            "asked_holds": "floor row question thing", "does_answer": "floor row question",
        })


class IsQuestion(unittest.TestCase):
    def right(self, thing, floor=FLOOR):
        self.assertIs(is_question(floor, thing), True, thing)

    def wrong(self, thing, floor=FLOOR):
        self.assertIs(is_question(floor, thing), False, thing)

    def test_each_form(self):
        for thing in SOME:
            self.right(thing)
        for floor in FLOORS:
            for thing in several(floor, 40):
                self.right(thing, floor)

    def test_marks(self):
        for mark in ("a", "!", "~", "a:3,-1", "xx", "-", "not", '"', "%", "x" * 100, "!~" * 50):
            self.right(("did", "deeds", mark))
        for mark in ("", " ", "a b", " a", "a ", "a\n", "\n", "x" * 101, "\x7f", "\xe4", "a\tb", None, 1, ("a",), ["a"]):
            self.wrong(("did", "deeds", mark))

    def test_tapes(self):
        for tape in tapes(FLOOR) + ("deeds-a", "log0-q", "log1-abc"):
            self.right(("did", tape, "x"))
        for tape in WRONG_NAMES + tuple(any_values()):
            self.wrong(("did", tape, "x"))

    def test_people_and_numbers(self):
        for person in (0, 1):
            self.right(("sees", person, (1,)))
        for person in (-1, 2, 3, True, False, "0", None, (0,)):
            self.wrong(("sees", person, (1,)))
        self.right(("sees", 2, ()), CROWDED)
        self.wrong(("sees", 3, ()), CROWDED)
        big = 10 ** 40
        for numbers in ((), (0,), (1 - big, big - 1), (5,) * 300, (-5, 7, 0, 7)):
            self.right(("sees", 0, numbers))
        for numbers in ((big,), (0, -big), (True,), (0, False), ("0",), (None,), ((0,),), [0], 0, None, "0", "-", {}):
            self.wrong(("sees", 0, numbers))

    def test_tuples_within_one_another(self):
        thing = DID
        for count in range(1, 8):
            (self.right if count <= 4 else self.wrong)(thing)
            (self.right if count < 4 else self.wrong)(("both", ("sees", 0, ()), thing))
            (self.right if count < 4 else self.wrong)(("either", thing, ("sees", 0, ())))
            thing = ("not", thing)
        # Those of numbers are not counted.
        self.right(("not", ("not", ("not", ("sees", 0, (1, 2))))))
        self.wrong(("not", ("not", ("not", ("not", ("sees", 0, ()))))))

    def test_numbers_of_parts(self):
        for thing in (
            (), ("did",), ("did", "deeds"), DID + ("a",), ("sees", 0), ("sees", 0, (), ()), ("not",), ("not", DID, DID),
            ("both", DID), ("both", DID, DID, DID), ("either",), ("either", DID), ("not", "did", "deeds", "a"),
            ("did", DID), ("sees", DID, ()), ("neither", DID), ("", DID), (DID,), (DID, DID), ("Did", "deeds", "a"),
            (None, DID), (("not",), DID), ("not", ("not",)), ["not", DID], ("not", list(DID)),
        ):
            self.wrong(thing)

    def test_parts_are_questions(self):
        for thing in SOME:
            parts = [thing]
            for part in parts:
                self.right(part)
                if part[0] in ("not", "both", "either"):
                    parts.extend(part[1:])

    def test_any_values(self):
        for thing in any_values() + [FLOOR, "did", "did deeds a"]:
            self.wrong(thing)
            self.wrong(("not", thing))
            self.wrong(("both", DID, thing))
            self.wrong((thing, DID))
            self.wrong(("did", thing, "a"))
            self.wrong(("sees", thing, ()))

    def test_altered(self):
        for house, things in ((MILL, SOME), (CROWD, deeper(CROWDED, 200))):
            floor = Floor(house)
            for question in things:
                for thing in altered(question):
                    self.assertIs(is_question(floor, thing), is_right_question(house, thing), thing)

    def test_more_did_than_limited(self):
        thing = ("both", ("both", ("both", DID, DID), ("either", DID, DID)), ("either", DID, ("both", DID, DID)))
        self.right(thing)
        self.assertIs(answer(FLOOR, thing, "ab"), True)


class Answer(unittest.TestCase):
    def test_all_runs(self):
        for floor in FLOORS:
            runs = list(walking.runs(floor.house, 4))[:60]
            for question in several(floor, 50):
                for run in runs:
                    found = answer(floor, question, run)
                    self.assertIs(found, answering.answer(floor.house, question, run), (question, run))

    def test_runs_that_lead_to_no_day(self):
        floor = Floor(APART)
        self.assertNotIn(floor.stand_of("ab"), floor.useful)
        self.assertIs(answer(floor, ("did", "deeds", "b"), "ab"), True)
        self.assertIs(answer(floor, ("did", "log1", "y"), "aba"), False)
        self.assertIs(answer(floor, ("sees", 0, ()), "b"), True)
        self.assertIs(answer(floor, ("sees", 0, ()), ""), False)

    def test_empty_run(self):
        self.assertIs(answer(FLOOR, ("did", "deeds", "a"), ""), False)
        self.assertIs(answer(FLOOR, ("sees", 0, (0,)), ""), True)
        # The first mark of a sight stands on it.
        self.assertIs(answer(FLOOR, ("did", "sight0", "0"), ""), True)
        self.assertIs(answer(FLOOR, ("did", "sight0", "0"), "aab"), True)
        self.assertIs(answer(FLOOR, ("did", "sight1", "-"), "b"), True)
        self.assertIs(answer(FLOOR, ("did", "sight0", "a:0"), ""), False)
        self.assertIs(answer(FLOOR, ("did", "sight0", "1"), "a"), False)

    def test_marks_that_a_tape_never_has(self):
        for run in ("", "a", "abba"):
            for question in (("did", "deeds", "c"), ("did", "log0", "y"), ("did", "log1-x", "x"), ("did", "deeds", "ab")):
                self.assertIs(answer(FLOOR, question, run), False)

    def test_too_few_and_too_many_numbers(self):
        for numbers, right in (((0,), True), ((), False), ((0, 0), False), ((1,), False), ((0, 0, 0), False)):
            self.assertIs(answer(FLOOR, ("sees", 0, numbers), "aa"), right)
        self.assertIs(answer(FLOOR, ("sees", 1, ()), "a"), True)
        self.assertIs(answer(FLOOR, ("sees", 1, (0,)), "a"), False)

    def test_sixty_deeds(self):
        self.assertIs(answer(FLOOR, ("both", ("did", "log1", "y"), ("sees", 0, (1,))), "a" * 59 + "b"), True)

    def test_no_question(self):
        for thing in any_values() + [("not", ("not", ("not", ("not", DID)))), ("sees", 2, ()), ("did", "log2", "x")]:
            with self.assertRaises(BadQuestion) as caught:
                answer(FLOOR, thing, "")
            self.assertIs(caught.exception.thing, thing)

    def test_by_name(self):
        self.assertIs(answer(run="a", question=DID, floor=FLOOR), True)
        self.assertIs(is_question(thing=DID, floor=FLOOR), True)
        self.assertIs(is_fixed(question=DID, floor=FLOOR), False)
        self.assertEqual(question_text(question=DID), "did deeds a")
        self.assertEqual(question_in(text="did deeds a", floor=FLOOR), DID)
        self.assertEqual(asked(question=DID, row=("log0",), floor=FLOOR)[0], "told")
        self.assertIs(does_answer(question=DID, row=("log0",), floor=FLOOR), True)
        self.assertIs(asked_holds(thing=None, question=DID, row=("log0",), floor=FLOOR), False)


class IsFixed(unittest.TestCase):
    def test_by_days(self):
        for floor in FLOORS:
            days = walking.days(floor.house, 4)
            for question in several(floor, 40):
                fixed = is_fixed(floor, question)
                answers = {answering.answer(floor.house, question, day) for day in days}
                self.assertIs(fixed, answering.is_told(floor, (), question))
                if fixed:
                    self.assertLess(len(answers), 2, question)

    def test_examples(self):
        for question, fixed in (
            (DID, False), (("either", DID, ("not", DID)), True), (("both", DID, ("not", DID)), True),
            (("did", "log0", "y"), True), (("not", ("did", "log0", "y")), True), (("sees", 0, (2,)), True),
            (("sees", 1, ()), True), (("sees", 0, (1,)), False), (("did", "sight0", "0"), True),
        ):
            self.assertIs(is_fixed(FLOOR, question), fixed, question)

    def test_no_days(self):
        for floor in (Floor(BARE), Floor(made(MILL_PARTS, ends=()))):
            for question in simple(floor):
                self.assertIs(is_fixed(floor, question), True)

    def test_runs_that_are_no_days(self):
        # The deed b leads away from all ends.
        self.assertIs(is_fixed(Floor(APART), ("did", "deeds", "b")), True)
        self.assertIs(is_fixed(Floor(APART), ("did", "deeds", "a")), False)

    def test_no_question(self):
        for thing in any_values():
            with self.assertRaises(BadQuestion) as caught:
                is_fixed(FLOOR, thing)
            self.assertIs(caught.exception.thing, thing)


class Texts(unittest.TestCase):
    def test_known(self):
        for question, text in TEXTS:
            self.assertEqual(question_text(question), text)
            self.assertEqual(question_in(FLOOR, text), question)

    def test_there_and_back(self):
        for floor in FLOORS:
            for question in several(floor, 60):
                text = question_text(question)
                self.assertEqual(text, answering.text(question))
                self.assertTrue(same(question_in(floor, text), question))

    def test_long_ones(self):
        big = 10 ** 40 - 1
        for question in (
            ("sees", 1, (big, -big) * 20), ("did", "deeds", "~" * 100), ("did", "deeds-abcdefghijklmnopqrstuvwxyz", "not"),
            ("both", ("both", ("both", DID, DID), ("either", DID, DID)), ("either", DID, ("both", DID, DID))),
        ):
            self.assertTrue(same(question_in(FLOOR, question_text(question)), question))

    def refused(self, text, floor=FLOOR):
        with self.assertRaises(BadQuestion) as caught:
            question_in(floor, text)
        self.assertIs(caught.exception.thing, text)

    def test_blanks(self):
        for _, text in TEXTS:
            for at in range(len(text) + 1):
                self.refused(text[:at] + " " + text[at:] if text[at:at + 1] == " " or at in (0, len(text)) else text + " ")
            self.refused(text.replace(" ", "  "))
            self.refused(text.replace(" ", "\n"))
            self.refused(text + "\n")
            self.refused(text.replace(" ", "", 1))

    def test_words_left_out_or_twice(self):
        refused = 0
        for _, text in TEXTS:
            words = text.split(" ")
            for at in range(len(words)):
                for others in (words[:at] + words[at + 1:], words[:at] + [words[at]] * 2 + words[at + 1:]):
                    # A word less or more may make another question, of just these words.
                    try:
                        self.assertEqual(answering.text(question_in(FLOOR, " ".join(others))), " ".join(others))
                    except BadQuestion:
                        refused += 1
            for more in ("did", "not", "did deeds a", "-", "0", "x"):
                self.refused(text + " " + more)
        self.assertGreater(refused, 50)
        for text in (
            "did a", "did deeds", "deeds a", "did did deeds a", "did deeds deeds a", "did deeds a a", "sees -", "0 -",
            "sees sees 0 -", "sees 0 0 -", "sees 0 - -", "both did deeds a", "both both did deeds a did deeds a",
            "not sees 0", "not sees", "either sees 0 - not",
        ):
            self.refused(text)

    def test_wrong_words(self):
        for text in (
            "", " ", "did", "not", "both", "sees", "did deeds", "did deeds a a", "Did deeds a", "did log2 a", "did sight2 a",
            "did log0-ba x", "sees 0", "sees 2 0", "sees -1 0", "sees 00 0", "sees +0 0", "sees 0 +1", "sees 0 01",
            "sees 0 -0", "sees 0 --1", "sees 0 1,", "sees 0 ,1", "sees 0 1,,2", "sees 0 1, 2", "sees 0 1.0", "sees 0 1_0",
            "sees 0 --", "sees 0 ()", "sees 0 x", "sees 0 0x1", "sees - -", "sees True 0", "sees 0 " + "9" * 41,
            "sees 0 -" + "1" * 41, "did deeds " + "x" * 101, "did deeds \xe4", "not not not not did deeds a",
            "both not not not did deeds a did deeds a", "both did deeds a did deeds a did deeds a", "either did deeds a",
            "not " * 900 + "did deeds a", "both " * 500, "('did', 'deeds', 'a')", "did deeds; a", "sees 0 \u0663",
            "did deeds x\x0by", "did deeds \x7f",
        ):
            self.refused(text)

    def test_person_or_tape_of_another_floor(self):
        self.refused("sees 1 -", FORKED)
        self.refused("did sight1 -", FORKED)
        self.refused("did log1 x", CROWDED)
        self.assertEqual(question_in(CROWDED, "sees 2 7"), ("sees", 2, (7,)))

    def test_no_strings(self):
        for thing in any_values() + [DID, ("not", DID), b"did deeds a", FLOOR]:
            self.refused(thing)

    def test_text_of_what_is_no_question(self):
        for thing in any_values() + [("sees", 3, ()), ("did", "log2", "x"), ("not", ("not", ("not", ("not", DID))))]:
            with self.assertRaises(BadQuestion) as caught:
                question_text(thing)
            self.assertIs(caught.exception.thing, thing)

    def test_altered_texts(self):
        """What is read has just this text."""
        for _, text in TEXTS:
            for at in range(len(text)):
                for other in (text[:at] + text[at + 1:], text[:at] + "0" + text[at:], text[:at] + "-" + text[at + 1:]):
                    try:
                        found = question_in(FLOOR, other)
                    except BadQuestion:
                        continue
                    self.assertTrue(is_right_question(MILL, found))
                    self.assertEqual(answering.text(found), other)


def cases(floors, count, most=6):
    for floor in floors:
        for row in rows(floor, most):
            for question in several(floor, count):
                yield floor, row, question


class Asked(unittest.TestCase):
    def check(self, floor, row, question):
        told = answering.is_told(floor, row, question)
        paper = asked(floor, row, question)
        self.assertEqual(paper[0], "told" if told else "parts")
        self.assertTrue(asked_right(floor, row, question, paper), paper)
        self.assertIs(asked_holds(floor, row, question, paper), True)
        self.assertIs(does_answer(floor, row, question), told)

    def test_all(self):
        for floor, row, question in cases(FLOORS, 9, 3):
            with self.subTest(house=str(floor.house), row=row, question=question):
                self.check(floor, row, question)

    def test_days(self):
        """No two days that are alike on a row that tells are answered unlike."""
        for floor in FLOORS:
            days = walking.days(floor.house, 4)[:80]
            for row in rows(floor, 2)[::2]:
                for question in several(floor, 8):
                    groups = {}
                    for day in days:
                        key = tuple(walking.writing(floor.house, tape, day) for tape in row)
                        groups.setdefault(key, set()).add(answering.answer(floor.house, question, day))
                    if any(len(answers) > 1 for answers in groups.values()):
                        self.assertIs(does_answer(floor, row, question), False)

    def test_examples(self):
        self.assertIs(does_answer(FLOOR, ("sight0",), ("did", "deeds", "b")), False)
        self.assertIs(asked_holds(FLOOR, ("sight0",), ("did", "deeds", "b"), ("parts", "b", "")), True)
        self.assertIs(does_answer(FLOOR, ("sight0",), ("did", "deeds", "a")), True)
        self.assertIs(does_answer(FLOOR, ("log1",), ("sees", 0, (1,))), True)
        self.assertIs(does_answer(FLOOR, ("log1-x",), ("sees", 0, (1,))), False)
        self.assertIs(does_answer(FLOOR, (), ("sees", 1, ())), True)
        self.assertIs(does_answer(FLOOR, (), DID), False)

    def test_rows_of_three(self):
        for row in (("log0", "log1", "deeds-a"), ("deeds", "log0", "log1"), ("log1-xy", "log0-y", "deeds-abc")):
            if not all(keep_pace(QUEUED, row[0], other) for other in row[1:]):
                continue
            for question in several(QUEUED, 25):
                self.check(QUEUED, row, question)

    def test_order_of_days(self):
        for question in (("did", "deeds", "b"), ("not", ("did", "deeds", "b"))):
            _, day, further = asked(FLOOR, ("sight0",), question)
            self.assertIs(answer(FLOOR, question, day), True)
            self.assertIs(answer(FLOOR, question, further), False)
            self.assertIs(asked_holds(FLOOR, ("sight0",), question, ("parts", further, day)), False)

    def test_no_days(self):
        for floor in (Floor(BARE), Floor(made(MILL_PARTS, ends=()))):
            for row in ((), ("deeds",), ("sight0", "deeds")):
                for question in simple(floor):
                    self.assertEqual(asked(floor, row, question), ("told", ()))
                    self.assertIs(does_answer(floor, row, question), True)
                    for thing in (("told", (((0, ()), (0, ()), ()),)), ("told", None), ("parts", "", "")):
                        self.assertIs(asked_holds(floor, row, question, thing), False)

    def test_fixed_questions(self):
        for floor in FLOORS:
            for question in several(floor, 30):
                if is_fixed(floor, question):
                    self.assertIs(does_answer(floor, (), question), True)

    def test_sixty_stands(self):
        floor = Floor(CUBE)
        question = ("both", ("did", "log0", "x"), ("sees", 0, (2, 7)))
        for row in (("deeds",), ("log0",), ("sight0", "deeds"), ()):
            paper = asked(floor, row, question)
            self.assertTrue(asked_right(floor, row, question, paper))
            self.assertIs(asked_holds(floor, row, question, paper), True)

    def test_same_again(self):
        ahead = copy.deepcopy(attributes(QUEUE))
        question = ("both", ("did", "deeds", "a"), ("not", ("did", "log1", "y")))
        kept = copy.deepcopy(question)
        for row in (("log1", "log0"), ("log0",), ()):
            self.assertEqual(asked(QUEUED, row, question), asked(QUEUED, row, question))
        self.assertEqual(attributes(QUEUE), ahead)
        self.assertEqual(question, kept)


class Holds(unittest.TestCase):
    def check(self, floor, row, question, thing):
        right = asked_right(floor, row, question, thing)
        self.assertIs(asked_holds(floor, row, question, thing), right, (row, question, thing))
        return right

    def test_least_papers_changed(self):
        for floor in FLOORS[:8:2] + FLOORS[10:14]:
            for row in rows(floor, 2)[::2]:
                for question in several(floor, 8):
                    paper = asked(floor, row, question)
                    if paper[0] != "told":
                        continue
                    pairs = paper[1]
                    for at in range(min(len(pairs), 5)):
                        self.assertFalse(self.check(floor, row, question, ("told", pairs[:at] + pairs[at + 1:])))
                        self.assertFalse(self.check(floor, row, question, ("told", pairs[:at + 1] + pairs[at:])))
                        if at + 1 < len(pairs):
                            swapped = pairs[:at] + (pairs[at + 1], pairs[at]) + pairs[at + 2:]
                            self.assertFalse(self.check(floor, row, question, ("told", swapped)))

    def test_altered_papers(self):
        for floor in (FLOOR, FORKED, Floor(HELD_BACK)) + FLOORS[10:13]:
            for row in rows(floor, 2):
                for question in several(floor, 6):
                    paper = asked(floor, row, question)
                    if len(str(paper)) < 120:
                        for thing in altered(paper):
                            self.check(floor, row, question, thing)

    def test_bools_and_integers(self):
        question = ("did", "log0", "x")
        pairs = (((0, (False,)), (0, (False,)), ()), ((0, (True,)), (0, (True,)), ()), ((1, (True,)), (1, (True,)), ()))
        self.assertTrue(self.check(FLOOR, ("log1",), question, ("told", pairs)))
        for thing in (
            (((0, (0,)), (0, (False,)), ()),) + pairs[1:], pairs[:2] + (((True, (True,)), (1, (True,)), ()),),
            pairs[:1] + (((0, (1,)), (0, (True,)), ()),) + pairs[2:], (((False, (False,)), (0, (False,)), ()),) + pairs[1:],
            (((0, ()), (0, ()), ()),) + pairs[1:], (((0, (False, False)), (0, (False,)), ()),) + pairs[1:],
            (((0, (False,)), (0, (False,)), (((), ()),)),) + pairs[1:], (((0, (False,)), (0, (False,))),) + pairs[1:],
            (((0, (None,)), (0, (False,)), ()),) + pairs[1:], ((0, 0, ()),) + pairs[1:],
            (((0, False), (0, False), ()),) + pairs[1:], list(pairs), None, (),
        ):
            self.assertFalse(self.check(FLOOR, ("log1",), question, ("told", thing)))

    def test_more_pairs_than_needed(self):
        """Further pairs bring those behind them, if these are open; where both are ends they must be answered alike."""
        question = ("did", "log0", "x")
        pairs = asked(FLOOR, ("log1",), question)[1]
        right = 0
        stages = [(stand, (met,)) for stand in (0, 1) for met in (False, True)]
        others = [(one, two, ()) for one, two in itertools.product(stages, repeat=2)]
        for count in (1, 2, 3):
            for more in itertools.combinations(others, count):
                thing = ("told", tuple(sorted(set(pairs + more))))
                right += self.check(FLOOR, ("log1",), question, thing)
        self.assertGreater(right, 3)

    def test_pairs_that_are_not_open(self):
        row, question = ("log1", "log0"), ("did", "deeds", "a")
        pairs = asked(QUEUED, row, question)[1]
        stage = (0, (False,))
        for rests, right in (
            (((("q",), ()),), True), (((("q", "r"), ()),), True), ((((), ("a b",)),), True), (((("",), ()),), False),
            (((("q",), ("r",)),), False), ((), False), (((("q",), ()), ((), ())), False), (((["q"], ()),), False),
        ):
            thing = ("told", tuple(sorted(pairs + ((stage, stage, rests),), key=repr)))
            if right:
                thing = ("told", tuple(sorted(pairs + ((stage, stage, rests),))))
            self.assertIs(self.check(QUEUED, row, question, thing), right)

    def test_stands_that_are_not_useful(self):
        floor = Floor(APART)
        pairs = asked(floor, ("log0",), ("did", "deeds", "b"))[1]
        stand = floor.stand_of("b")
        stage = (stand, (True,))
        self.assertFalse(self.check(floor, ("log0",), ("did", "deeds", "b"), ("told", pairs + ((stage, stage, ()),))))
        stage = (len(floor), (True,))
        self.assertFalse(self.check(floor, ("log0",), ("did", "deeds", "b"), ("told", pairs + ((stage, stage, ()),))))

    def test_days(self):
        question = ("did", "deeds", "b")
        for day, further, right in (
            ("b", "", True), ("", "b", False), ("ab", "a", True), ("ab", "ba", False), ("b", "bb", False), ("", "", False),
            ("a", "aab", False), ("aba", "aa", True), ("b" * 300, "", True), ("c", "", False), ("b", "c", False),
            ("b", "a", False), ("b", None, False), (["b"], "", False), ("b", ("",), False), (True, "", False),
        ):
            self.assertIs(self.check(FLOOR, ("sight0",), question, ("parts", day, further)), right)
            self.assertIs(self.check(FLOOR, ("sight0",), ("not", question), ("parts", further, day)), right)
            self.assertFalse(self.check(FLOOR, ("log1",), question, ("parts", day, further)))

    def test_runs_that_are_no_days(self):
        floor = FORKED
        for day, further, right in (
            ("b", "aa", True), ("b", "a", False), ("", "aa", False), ("ba", "aa", False), ("aba", "b", False), ("aba", "aa", True),
        ):
            question = ("did", "deeds", "b")
            self.assertIs(self.check(floor, ("deeds-abc",), question, ("parts", day, further)), right)

    def test_any_values(self):
        for thing in any_values() + ["told", ("told",), ("told", ()), ("parts",), ("parts", "b"), ("tells", ()), FLOOR]:
            for row, question in ((("sight0",), ("did", "deeds", "b")), (("log1",), DID), ((), ("sees", 0, (0,)))):
                for paper in (
                    thing, ("told", thing), ("told", (thing,)), ("told", ((thing, thing, ()),)), ("parts", thing, ""),
                    ("told", (((0, thing), (0, thing), ()),)), ("parts", "b", thing), ("told", (((0, ()), (0, ()), thing),)),
                ):
                    self.check(FLOOR, row, question, paper)

    def test_papers_of_other_rows_and_questions(self):
        for floor in (FLOOR, FORKED):
            found = [
                (row, question, asked(floor, row, question)) for row in rows(floor, 3)[:8] for question in several(floor, 8)
            ]
            for row, question, _ in found[::5]:
                for _, _, paper in found:
                    self.check(floor, row, question, paper)

    def test_thing_stays(self):
        thing = ("told", [[(0, []), {"a": [1]}]])
        kept = copy.deepcopy(thing)
        asked_holds(FLOOR, ("log1",), DID, thing)
        self.assertEqual(thing, kept)


class Refused(unittest.TestCase):
    CALLS = (asked, does_answer, lambda floor, row, question: asked_holds(floor, row, question, ("parts", "b", "")))

    def refused(self, error, row, question, thing):
        for call in self.CALLS:
            with self.assertRaises(error) as caught:
                call(FLOOR, row, question)
            self.assertIs(caught.exception.thing, thing)

    def test_rows(self):
        for thing in any_values() + ["sight2", ["deeds"], {"deeds": 1}, FLOOR]:
            if not isinstance(thing, tuple):
                for question in (DID, None, "did"):
                    self.refused(NoTape, thing, question, thing)
            for row in ((thing,), ("log0", thing), ("log0", "log0", thing), ("log0", "log1", thing, None)):
                self.refused(NoTape, row, None, thing)
        for row in (("log0", "log0"), ("log0", "log1", "log0")):
            self.refused(NoTape, row, None, row)

    def test_no_pace(self):
        for row, pair in (
            (("log0", "log1"), ("log0", "log1")), (("deeds", "log1", "log0"), ("deeds", "log0")),
            (("log0", "deeds", "log1"), ("log0", "deeds")),
        ):
            for question in (DID, None, ("did", "log9", "x")):
                for call in self.CALLS:
                    with self.assertRaises(NoPace) as caught:
                        call(FLOOR, row, question)
                    self.assertTrue(pace_right(FLOOR, *pair, caught.exception.paper))

    def test_questions(self):
        for thing in any_values() + [("did", "log9", "x"), ("sees", 2, ()), ("not", ("not", ("not", ("not", DID))))]:
            for row in ((), ("log0",), ("deeds", "log1")):
                self.refused(BadQuestion, row, thing, thing)


if __name__ == "__main__":
    unittest.main()
