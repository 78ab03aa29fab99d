"""Texts of houses, written and read."""

import itertools
import unittest

from loghouse.errors import BadHouse, BadText
from loghouse.houses import House
from tests.reading import parts_of, wrong_line
from tests.samples import (
    BARE_PARTS, BARE_TEXT, FULL, HOUSES, MILL, MILL_PARTS, MILL_TEXT, TEXTS, YARD, YARD_TEXT, any_values,
    attributes, made, random_parts,
)

FORTY = int("1234567890" * 4)
FORTY_ONE = 10 ** 40


def line_put(text, line, *others):
    """The text with a line, told from 1 on, replaced by others, perhaps none."""
    lines = text.split("\n")
    lines[line - 1:line] = others
    return "\n".join(lines)


class TextCase(unittest.TestCase):
    def refuse(self, text, line):
        """No text of a house; the error bears this line."""
        with self.subTest(text=text):
            with self.assertRaises(BadText) as caught:
                House.read(text)
            self.assertEqual(caught.exception.line, line)
            self.assertIs(type(caught.exception.line), int)

    def refuse_house(self, text, part):
        """All lines stand, but they tell no house; the error bears this part."""
        with self.subTest(text=text):
            with self.assertRaises(BadHouse) as caught:
                House.read(text)
            self.assertEqual(caught.exception.part, part)

    def agree(self, text):
        """What is read from a text is what patterns find in it, or the error is."""
        line = wrong_line(text)
        if line is not None:
            self.refuse(text, line)
            return
        try:
            house = House(**parts_of(text))
        except BadHouse as error:
            self.refuse_house(text, error.part)
            return
        with self.subTest(text=text):
            self.assertEqual(attributes(House.read(text)), attributes(house))
            self.assertEqual(str(House.read(text)), text)


class Written(TextCase):
    def test_texts(self):
        for parts, text in TEXTS:
            self.assertEqual(str(House(**parts)), text)

    def test_text_is_a_string(self):
        for house in HOUSES:
            self.assertIs(type(str(house)), str)
            self.assertEqual(f"{house}", str(house))

    def test_full_house(self):
        lines = str(FULL).split("\n")
        self.assertEqual(lines[:10], [
            "people 3", "deed a 0", "deed e 1", "deed m 2", "deed s 0", "deed z 1", "start -50 0 50", "places 3",
            "ends 0 1 2", "logs 2",
        ])
        self.assertEqual(lines[10], "arrow 0 a 0 -20,3,-3,1/0,0,1,0/20,0,0,-3 a-")
        self.assertEqual(lines[11], "arrow 0 e 1 -20,3,-3,1/0,0,1,0/20,0,0,-3 z-")
        self.assertEqual(lines[24], "arrow 2 z 0 -20,3,-3,1/0,0,1,0/20,0,0,-3 a-")
        self.assertEqual(lines[25], "test 0 a 0,0,1,-1 -1000 1000")
        self.assertEqual(lines[54], "test 2 z 0,0,1,1 -1000 1000")
        self.assertEqual(lines[55:], [
            f"look {person} {place} {person},{place},0,0 {person},{place},0,1 {person},{place},0,2"
            for person in range(3) for place in range(3)
        ])

    def test_marks(self):
        for logs, marks, word in (
            (0, (), "."), (1, ("",), "-"), (1, ("q",), "q"), (2, ("", ""), "--"), (2, ("a", ""), "a-"),
            (2, ("", "a"), "-a"), (2, ("a", "z"), "az"),
        ):
            house = made(BARE_PARTS, logs=logs, arrows=((0, "a", 0, ((0, 1),), marks),))
            text = f"people 1\ndeed a 0\nstart 0\nplaces 1\nends\nlogs {logs}\narrow 0 a 0 0,1 {word}"
            self.assertEqual(str(house), text)
            self.assertEqual(House.read(text), house)

    def test_ends(self):
        for ends, line in (((), "ends"), ((0,), "ends 0"), ((2,), "ends 2"), ((0, 2), "ends 0 2")):
            house = made(BARE_PARTS, places=3, looks=(((), (), ()),), ends=ends)
            self.assertEqual(str(house).split("\n")[4], line)
            self.assertEqual(House.read(str(house)), house)

    def test_looks_only_where_something_is_seen(self):
        one = ((1, 2, 3),)
        looks = (((), one, ()), ((), (), ()), (one, (), one + one))
        house = made(BARE_PARTS, people=3, places=3, start=(0, 0), looks=looks)
        self.assertEqual(str(house).split("\n")[6:], [
            "look 0 1 1,2,3", "look 2 0 1,2,3", "look 2 2 1,2,3 1,2,3",
        ])
        self.assertEqual(House.read(str(house)), house)

    def test_written_and_read_again(self):
        for parts in [attributes(house) for house in HOUSES] + [random_parts(seed) for seed in range(200)]:
            house = House(**parts)
            again = House.read(str(house))
            self.assertEqual(attributes(again), parts)
            self.assertEqual(str(again), str(house))
            self.assertIs(type(again), House)
            self.assertEqual(attributes(house), parts)

    def test_read_off_an_object_and_by_name(self):
        self.assertEqual(House.read(text=MILL_TEXT), MILL)
        self.assertEqual(MILL.read(YARD_TEXT), YARD)
        self.assertEqual(attributes(MILL), MILL_PARTS)


class ManyDigits(TextCase):
    def house(self, number):
        """A house that has an integer in each place where one can be any."""
        form = (number, -number)
        return made(
            BARE_PARTS, start=(number,), arrows=((0, "a", 0, (form,), ()),),
            tests=((0, "a", form, -abs(number), abs(number)),), looks=(((form,),),),
        )

    def text(self, word):
        """Its text."""
        form = f"{word},-{word}"
        return (
            f"people 1\ndeed a 0\nstart {word}\nplaces 1\nends\nlogs 0\narrow 0 a 0 {form} .\n"
            f"test 0 a {form} -{word} {word}\nlook 0 0 {form}"
        )

    def test_forty_digits(self):
        for number in (1, 10, FORTY, 10 ** 39, 10 ** 40 - 1):
            house = self.house(number)
            self.assertEqual(str(house), self.text(str(number)))
            self.assertEqual(attributes(House.read(str(house))), attributes(house))

    def test_more_are_written(self):
        for word in (
            "1" + "0" * 40, "9" * 41, "1234567890" * 6, "1" + "0" * 59, "1" + "0" * 60, "1" + "0" * 61,
            "7" + "0" * 59 + "7", "1" + "0" * 119 + "5", "3" + "0" * 120, "12" * 200, "9" * 500,
        ):
            self.assertEqual(str(self.house(int(word))), self.text(word))

    def test_thousands_of_digits_are_written(self):
        word = "1" + "0" * 4998 + "3"
        self.assertEqual(str(self.house(10 ** 4999 + 3)), self.text(word))

    def test_more_are_not_read(self):
        for number in (FORTY_ONE, 10 ** 41, FORTY * 10 + 1, 10 ** 100):
            self.refuse(str(self.house(number)), 3)
            self.refuse(str(self.house(-number)), 3)

    def test_more_are_not_read_anywhere(self):
        for word in (str(FORTY_ONE), str(-FORTY_ONE), "9" * 41, "-" + "9" * 41, "1" * 4000, "0" * 41):
            for line, other in (
                (1, f"people {word}"), (2, f"deed a {word}"), (3, f"start {word}"), (3, f"start 0 {word}"),
                (4, f"places {word}"), (5, f"ends {word}"), (5, f"ends 0 {word}"), (6, f"logs {word}"),
                (7, f"arrow {word} a 0 1,-1 ."), (7, f"arrow 0 a {word} 1,-1 ."), (7, f"arrow 0 a 0 {word},-1 ."),
                (7, f"arrow 0 a 0 1,{word} ."), (8, f"test {word} a 1,-1 -1 1"), (8, f"test 0 a {word},-1 -1 1"),
                (8, f"test 0 a 1,{word} -1 1"), (8, f"test 0 a 1,-1 {word} 1"), (8, f"test 0 a 1,-1 -1 {word}"),
                (9, f"look {word} 0 1,-1"), (9, f"look 0 {word} 1,-1"), (9, f"look 0 0 {word},-1"),
                (9, f"look 0 0 1,{word}"), (9, f"look 0 0 1,-1 1,{word}"),
            ):
                self.refuse(line_put(self.text("1"), line, other), line)

    def test_forty_digits_stand_anywhere(self):
        for word in (str(FORTY), "-" + "9" * 40, "9" * 40):
            for line, other, part in (
                (1, f"people {word}", "people"), (2, f"deed a {word}", "deeds"), (4, f"places {word}", "places"),
                (5, f"ends {word}", "ends"), (6, f"logs {word}", "logs"),
                (7, f"arrow {word} a 0 1,-1 .", (int(word), "a", 0, ((1, -1),), ())),
                (7, f"arrow 0 a {word} 1,-1 .", (0, "a", int(word), ((1, -1),), ())),
                (8, f"test {word} a 1,-1 -1 1", (int(word), "a", (1, -1), -1, 1)),
            ):
                text = line_put(self.text("1"), 9)
                self.refuse_house(line_put(text, line, other), part)


class NoString(TextCase):
    def test_any_value(self):
        for value in any_values() + [0, 1, (), [MILL_TEXT], (MILL_TEXT,), {MILL_TEXT: 1}, MILL_TEXT.split("\n")]:
            if not isinstance(value, str):
                self.refuse(value, 0)

    def test_arguments_stay(self):
        value = [MILL_TEXT, ["people 2"]]
        self.refuse(value, 0)
        self.assertEqual(value, [MILL_TEXT, ["people 2"]])

    def test_strings_that_are_none(self):
        for text in (
            "", " ", "\n", "\n\n", "people", "people ", " people 1", "x", "-", "a\nb", "x" * 4000, "\n" * 4000,
        ):
            self.refuse(text, 1)


class Lines(TextCase):
    def test_left_out(self):
        for line, told in ((1, 1), (4, 4), (5, 5), (6, 6), (7, 7)):
            self.refuse(line_put(MILL_TEXT, line), told)
        self.refuse_house(line_put(MILL_TEXT, 2), (0, "a", 0, ((1, -1),), ("x", "x")))
        for line in (8, 9, 10):
            self.agree(line_put(MILL_TEXT, line))
            self.assertEqual(str(House.read(line_put(MILL_TEXT, line))), line_put(MILL_TEXT, line))

    def test_without_deeds(self):
        self.refuse_house(line_put(BARE_TEXT, 2), "deeds")

    def test_too_few(self):
        lines = BARE_TEXT.split("\n")
        for many in range(1, 6):
            self.refuse("\n".join(lines[:many]), many + 1)
            self.refuse("\n".join(lines[:many]) + "\n", many + 1)
        self.refuse("people 1\nstart 0\nplaces 1", 4)
        self.refuse("people 1", 2)
        self.refuse("people 7\ndeed z 9\ndeed a 9", 4)

    def test_line_feed_at_the_end(self):
        for _, text in TEXTS:
            lines = len(text.split("\n"))
            self.refuse(text + "\n", lines + 1)
            self.refuse(text + "\n\n", lines + 1)
            self.refuse("\n" + text, 1)
            self.refuse(text + " ", lines)
            self.refuse(text + "\n ", lines + 1)

    def test_doubled(self):
        for line in (1, 4, 5, 6, 7):
            row = MILL_TEXT.split("\n")[line - 1]
            self.refuse(line_put(MILL_TEXT, line, row, row), line + 1)
        self.refuse_house(line_put(MILL_TEXT, 2, "deed a 0", "deed a 0"), "deeds")
        self.refuse_house(line_put(MILL_TEXT, 8, *["arrow 0 a 0 1,-1 xx"] * 2), "arrows")
        self.refuse_house(line_put(YARD_TEXT, 13, *["test 0 z 0,1,1 -10 10"] * 2), "tests")
        self.refuse(line_put(MILL_TEXT, 10, "look 0 0 0,1", "look 0 0 0,1"), 11)
        self.refuse(line_put(YARD_TEXT, 16, "look 0 0 0,1,0", "look 0 0 4,0,-1"), 17)

    def test_many_deeds(self):
        deeds = [f"deed {letter} 0" for letter in "abcdef"]
        self.refuse_house(line_put(BARE_TEXT, 2, *deeds), "deeds")
        self.assertEqual(len(House.read(line_put(BARE_TEXT, 2, *deeds[:5])).deeds), 5)

    def test_exchanged(self):
        for first, second in itertools.combinations(range(10), 2):
            lines = MILL_TEXT.split("\n")
            lines[first], lines[second] = lines[second], lines[first]
            self.agree("\n".join(lines))
        self.refuse_house(line_put(line_put(MILL_TEXT, 2, "deed b 1"), 3, "deed a 0"), "deeds")
        self.refuse("places 1\npeople 1\ndeed a 0\nstart 0\nends\nlogs 0", 1)
        self.refuse("people 1\nstart 0\ndeed a 0\nplaces 1\nends\nlogs 0", 3)
        self.refuse("people 1\ndeed a 0\nplaces 1\nstart 0\nends\nlogs 0", 3)
        self.refuse("people 1\ndeed a 0\nstart 0\nplaces 1\nlogs 0\nends", 5)
        self.refuse("people 1\ndeed a 0\nstart 0\nends\nplaces 1\nlogs 0", 4)
        self.refuse("people 1\ndeed a 0\nstart 0\nplaces 1\nends\narrow 0 a 0 0,1 .\nlogs 0", 6)

    def test_order_of_the_kinds_behind_logs(self):
        arrow, test, look = "arrow 0 a 0 0,1 .", "test 0 a 0,1 0 1", "look 0 0 0,1"
        for lines in itertools.permutations((arrow, test, look)):
            line = next((at for at in range(3) if lines[at] != (arrow, test, look)[at]), None)
            if line is None:
                House.read("\n".join((BARE_TEXT, *lines)))
            else:
                self.agree("\n".join((BARE_TEXT, *lines)))
        self.refuse("\n".join((BARE_TEXT, arrow, test, arrow, test)), 9)
        self.refuse("\n".join((BARE_TEXT, arrow, look, test)), 9)
        self.refuse("\n".join((BARE_TEXT, look, arrow)), 8)
        self.refuse("\n".join((BARE_TEXT, test, arrow)), 8)
        self.refuse("\n".join((BARE_TEXT, arrow, test, look, "logs 0")), 10)
        self.refuse("\n".join((BARE_TEXT, arrow, "deed a 0")), 8)
        self.refuse("\n".join((BARE_TEXT, arrow, "people 1")), 8)

    def test_first_wrong_line(self):
        for first, second in itertools.combinations(range(1, 11), 2):
            self.refuse(line_put(line_put(MILL_TEXT, second, "x"), first, "x"), first)

    def test_wrong_line_ahead_of_what_is_no_house(self):
        text = line_put(MILL_TEXT, 1, "people 7")
        self.refuse_house(text, "people")
        self.refuse(line_put(text, 10, "look 0 0 0"), 10)
        self.refuse(text + "\n", 11)
        self.refuse(line_put(text, 7), 7)

    def test_unknown_words(self):
        for _, text in TEXTS:
            for line, row in enumerate(text.split("\n"), start=1):
                word, _, rest = row.partition(" ")
                for other in (
                    word.upper(), word.capitalize(), word + "s", word[:-1], "", "x", word + ":", "\t" + word,
                    "#" + word,
                ):
                    # Without its last letter, or with one more, no word is another kind of line here.
                    self.refuse(line_put(text, line, f"{other} {rest}" if rest else other), line)
                self.refuse(line_put(text, line, ""), line)
                self.refuse(line_put(text, line, "", row), line)
                self.refuse(line_put(text, line, "# " + row), line)

    def test_blanks(self):
        for _, text in TEXTS:
            for line, row in enumerate(text.split("\n"), start=1):
                for other in (row + " ", " " + row, row.replace(" ", "  ", 1), row + "\t", row + "\r", row + " \\"):
                    if other != row:
                        self.refuse(line_put(text, line, other), line)
                words = row.split(" ")
                for at in range(1, len(words)):
                    self.refuse(line_put(text, line, " ".join(words[:at]) + "  " + " ".join(words[at:])), line)
                    self.refuse(line_put(text, line, " ".join(words[:at]) + "\t" + " ".join(words[at:])), line)


class FormOfLines(TextCase):
    def put(self, line, *rows):
        """The text of the mill with a line put otherwise cannot stand there."""
        for row in rows:
            self.refuse(line_put(MILL_TEXT, line, row), line)

    def test_integers(self):
        for word in ("", "-", "+1", "01", "00", "-0", "-01", "+0", "--1", "1-", "0x1", "1_0", "1.0", "1e3", "a", "one",
                     "(1)", "1,", ",1", "1/1", ".", "1;", "'1'", "None", "True", "-+1", "- 1"):
            self.put(1, f"people {word}")
            self.put(2, f"deed a {word}")
            self.put(4, f"start {word}", f"start 0 {word}", f"start {word} 0")
            self.put(5, f"places {word}")
            self.put(6, f"ends {word}", f"ends 0 {word}", f"ends {word} 0")
            self.put(7, f"logs {word}")
            self.put(8, f"arrow {word} a 0 1,-1 xx", f"arrow 0 a {word} 1,-1 xx")
            if "," not in word and "/" not in word:
                self.put(8, f"arrow 0 a 0 1,{word} xx", f"arrow 0 a 0 {word},1 xx", f"arrow 0 a 0 0,1/0,{word} xx")
                self.put(10, f"look 0 0 1,{word}", f"look 0 0 {word},1", f"look 0 0 0,1 0,{word}")
            self.put(10, f"test {word} a 0,1 0 0", f"test 0 a 0,1 {word} 0", f"test 0 a 0,1 0 {word}")
            self.put(10, f"look {word} 0 0,1", f"look 0 {word} 0,1")

    def test_one_integer(self):
        for line, word in ((1, "people"), (5, "places"), (7, "logs")):
            self.put(line, word, word + " ", f"{word} 1 1", f"{word} 1 2 3", f"{word}1", f"{word}, 1", f"{word} 1,1")

    def test_deed(self):
        self.put(2, "deed", "deed a", "deed 0", "deed a 0 0", "deed 0 a", "deed A 0", "deed ab 0", "deed a0",
                 "deed - 0", "deed  0", "deed a b", "deed ` 0", "deed { 0", "deed a,0")

    def test_start(self):
        self.put(4, "start", "start ", "start 0,1", "start -", "start .", "start a")
        self.refuse_house(line_put(MILL_TEXT, 4, "start 0 0 0 0"), "start")
        self.refuse_house(line_put(MILL_TEXT, 4, "start " + " ".join(["-5"] * 300)), "start")

    def test_ends(self):
        self.put(6, "ends ", "ends -", "ends .", "ends 0,1", "ends none", "ends a", "end", "ends0")
        self.refuse_house(line_put(MILL_TEXT, 6, "ends 1"), "ends")
        self.refuse_house(line_put(MILL_TEXT, 6, "ends -1"), "ends")
        self.refuse_house(line_put(MILL_TEXT, 6, "ends 0 0"), "ends")
        self.refuse_house(line_put(MILL_TEXT, 6, "ends" + " 7" * 300), "ends")

    def test_arrow(self):
        self.put(8, "arrow", "arrow 0", "arrow 0 a", "arrow 0 a 0", "arrow 0 a 0 1,-1", "arrow 0 a 0 xx",
                 "arrow 0 a 0 1,-1 xx xx", "arrow 0 a 0 1,-1 1,-1 xx", "arrow a 0 0 1,-1 xx", "arrow 0 A 0 1,-1 xx",
                 "arrow 0 ab 0 1,-1 xx", "arrow 0 - 0 1,-1 xx", "arrow 0  0 1,-1 xx", "arrow 0 0 0 1,-1 xx")

    def test_forms_of_arrows(self):
        for word in ("1", "", ",", "1,", ",1", "1,,1", "1;1", "/", "1,1/", "/1,1", "1,1//1,1", "1,1/1", "1/1,1", "1 1",
                     "1,1,", ".", "-", "1.1", "(1,1)", "1, 1", "1,1 /1,1", "1,1\\1,1"):
            self.put(8, f"arrow 0 a 0 {word} xx")
        for word, forms in (
            ("1,-1/0,1", ((1, -1), (0, 1))), ("1,2,3", ((1, 2, 3),)), ("1,2,3/0,0", ((1, 2, 3), (0, 0))),
        ):
            self.refuse_house(line_put(MILL_TEXT, 8, f"arrow 0 a 0 {word} xx"), (0, "a", 0, forms, ("x", "x")))

    def test_marks_of_arrows(self):
        for word in (
            "", "..", ".x", "x.", "X", "xX", "1", "x1", "x,x", "x/x", "+", "_", "x x", "`", "{", "x\tx", "*", "''",
        ):
            self.put(8, f"arrow 0 a 0 1,-1 {word}")
        for word, marks in (
            (".", ()), ("-", ("",)), ("x", ("x",)), ("xxx", ("x", "x", "x")), ("---", ("", "", "")),
            ("-" * 300, ("",) * 300), ("abcdefghijklmnopqrstuvwxyz", tuple("abcdefghijklmnopqrstuvwxyz")),
        ):
            self.refuse_house(line_put(MILL_TEXT, 8, f"arrow 0 a 0 1,-1 {word}"), (0, "a", 0, ((1, -1),), marks))

    def test_marks_without_logs(self):
        text = BARE_TEXT + "\narrow 0 a 0 0,1 "
        self.assertEqual(House.read(text + ".").arrows, ((0, "a", 0, ((0, 1),), ()),))
        self.refuse_house(text + "-", (0, "a", 0, ((0, 1),), ("",)))
        self.refuse_house(text + "x", (0, "a", 0, ((0, 1),), ("x",)))
        self.refuse(text[:-1], 7)
        self.refuse(text, 7)

    def test_test(self):
        self.put(10, "test", "test 0", "test 0 a", "test 0 a 0,1", "test 0 a 0,1 0", "test 0 a 0,1 0 0 0",
                 "test 0 a 0 0", "test 0 A 0,1 0 0", "test 0 ab 0,1 0 0", "test a 0 0,1 0 0", "test 0 a 0 0 0",
                 "test 0 a 0,1/0,1 0 0",
                 "test 0 a 0,1 0,1 0 0", "test 0 a 0,1 0,1", "test 0 a . 0 0", "test 0 0,1 0 0", "test 0  0,1 0 0")
        self.refuse_house(line_put(MILL_TEXT, 10, "test 0 a 0,1 1 0"), (0, "a", (0, 1), 1, 0))
        self.refuse_house(line_put(MILL_TEXT, 10, "test 0 a 0,1,1 0 1"), (0, "a", (0, 1, 1), 0, 1))
        self.refuse_house(line_put(MILL_TEXT, 10, "test 0 z 0,1 0 1"), (0, "z", (0, 1), 0, 1))
        self.refuse_house(line_put(MILL_TEXT, 10, "test -1 a 0,1 0 1"), (-1, "a", (0, 1), 0, 1))

    def test_look(self):
        self.put(10, "look", "look 0", "look 0 0", "look 0 0 0", "look 0 0 ", "look 0 0,1", "look 0,1",
                 "look 0 0 0,1/0,1", "look 0 0 0,1 0", "look 0 0 0,1 .", "look 0 0 .", "look 0 0 -", "look a 0 0,1",
                 "look 0 0 0,1 ",
                 "look 0 0 0,1 /0,1")
        self.refuse_house(line_put(MILL_TEXT, 10, "look 0 0 0,1,2"), "looks")
        self.refuse_house(line_put(MILL_TEXT, 10, "look 1 0 0,1 1,2,3"), "looks")

    def test_look_of_people_and_places(self):
        self.put(10, "look 2 0 0,1", "look 0 1 0,1", "look -1 0 0,1", "look 0 -1 0,1", "look 1 1 0,1",
                 f"look {FORTY} 0 0,1", f"look 0 {FORTY} 0,1", "look 7 7 0")
        self.assertEqual(House.read(line_put(MILL_TEXT, 10, "look 1 0 0,1")).looks, (((),), (((0, 1),),)))
        for person, place in itertools.product(range(-1, 4), repeat=2):
            text = line_put(line_put(YARD_TEXT, 17), 16, f"look {person} {place} 0,1,0")
            if 0 <= person < 2 and 0 <= place < 2:
                looks = House.read(text).looks
                self.assertEqual(looks[person][place], ((0, 1, 0),))
                self.assertEqual(sum(len(forms) for row in looks for forms in row), 1)
            else:
                self.refuse(text, 16)

    def test_looks_below_what_wrong_numbers_tell(self):
        for people, places in ((7, 1), (1, 7), (7, 7), (FORTY, 1), (1, FORTY), (FORTY, FORTY)):
            text = f"people {people}\ndeed a 0\nstart 0\nplaces {places}\nends\nlogs 0"
            part = "people" if people > 3 else "places"
            self.refuse_house(text, part)
            self.refuse_house(f"{text}\nlook 0 0 0,1\nlook {people - 1} {places - 1} 0,1", part)
            self.refuse(f"{text}\nlook {people - 1} {places - 1} 0", 7)
            self.refuse(f"{text}\nlook {people} 0 0,1", 7)
            self.refuse(f"{text}\nlook 0 {places} 0,1", 7)
        for people, places in ((0, 1), (1, 0), (-1, 1), (1, -1), (-FORTY, -FORTY)):
            text = f"people {people}\ndeed a 0\nstart 0\nplaces {places}\nends\nlogs 0"
            self.refuse_house(text, "people" if people < 1 else "places")
            self.refuse(f"{text}\nlook 0 0 0,1", 7)
            self.refuse(f"{text}\nlook -1 -1 0,1", 7)

    def test_looks_ascend(self):
        head = "people 3\ndeed a 0\nstart 0\nplaces 3\nends\nlogs 0"
        pairs = list(itertools.product(range(3), repeat=2))
        for one, other in itertools.product(pairs, repeat=2):
            text = f"{head}\nlook {one[0]} {one[1]} 0,1\nlook {other[0]} {other[1]} 1,0"
            if one < other:
                looks = House.read(text).looks
                self.assertEqual((looks[one[0]][one[1]], looks[other[0]][other[1]]), (((0, 1),), ((1, 0),)))
            else:
                self.refuse(text, 8)
        self.refuse(f"{head}\nlook 0 0 0,1\nlook 2 2 0,1\nlook 1 1 0,1", 9)


class NoHouse(TextCase):
    def test_numbers(self):
        self.refuse_house(line_put(MILL_TEXT, 1, "people 4"), "people")
        self.refuse_house(line_put(line_put(MILL_TEXT, 10), 1, "people 0"), "people")
        self.refuse_house(line_put(MILL_TEXT, 1, "people 1"), "deeds")
        self.refuse_house(line_put(MILL_TEXT, 2, "deed a 2"), "deeds")
        self.refuse_house(line_put(MILL_TEXT, 2, "deed a -1"), "deeds")
        self.refuse_house(line_put(MILL_TEXT, 5, "places 4"), "places")
        self.refuse_house(line_put(MILL_TEXT, 7, "logs 3"), "logs")
        self.refuse_house(line_put(MILL_TEXT, 7, "logs -1"), "logs")
        self.refuse_house(line_put(MILL_TEXT, 7, "logs 1"), (0, "a", 0, ((1, -1),), ("x", "x")))
        self.refuse_house(line_put(MILL_TEXT, 8, "arrow 1 a 0 1,-1 xx"), (1, "a", 0, ((1, -1),), ("x", "x")))
        self.refuse_house(line_put(MILL_TEXT, 8, "arrow 0 a 1 1,-1 xx"), (0, "a", 1, ((1, -1),), ("x", "x")))
        self.refuse_house(line_put(MILL_TEXT, 8, "arrow 0 c 0 1,-1 xx"), (0, "c", 0, ((1, -1),), ("x", "x")))
        self.refuse_house(line_put(MILL_TEXT, 4, "start 0 0"), (0, "a", 0, ((1, -1),), ("x", "x")))

    def test_orders(self):
        text = line_put(line_put(MILL_TEXT, 8, "arrow 0 b 0 0,1 -y"), 9, "arrow 0 a 0 1,-1 xx")
        self.refuse_house(text, "arrows")
        self.refuse_house(line_put(line_put(YARD_TEXT, 13), 15, "test 0 z 0,1,1 -10 10"), "tests")
        self.refuse_house(line_put(YARD_TEXT, 7, "ends 1 0"), "ends")

    def test_part_that_is_looked_at_first(self):
        text = "people 9\ndeed a 9\nstart 0 0 0 0\nplaces 9\nends 9 9\nlogs 9\narrow 9 a 9 0,1 -\ntest 9 a 0,1 9 0"
        rights = ("people 1", "deed a 0", "start 0", "places 1", "ends", "logs 0", "arrow 0 a 0 0,1 .")
        parts = (
            "people", "deeds", "start", "places", "ends", "logs", (9, "a", 9, ((0, 1),), ("",)),
            (9, "a", (0, 1), 9, 0),
        )
        for line, part in enumerate(parts, start=1):
            self.refuse_house(text, part)
            if line <= len(rights):
                text = line_put(text, line, rights[line - 1])


class PutOtherwise(TextCase):
    TEXTS = [text for _, text in TEXTS] + [str(House(**random_parts(seed))) for seed in (3, 8, 21)]

    def test_lines_left_out_doubled_exchanged(self):
        for text in self.TEXTS:
            lines = text.split("\n")
            for at in range(len(lines)):
                self.agree("\n".join(lines[:at] + lines[at + 1:]))
                self.agree("\n".join(lines[:at]))
                for to in range(len(lines)):
                    self.agree("\n".join(lines[:to] + [lines[at]] + lines[to:]))
                    moved = lines[:at] + lines[at + 1:]
                    self.agree("\n".join(moved[:to] + [lines[at]] + moved[to:]))

    def test_signs_left_out(self):
        for text in self.TEXTS:
            for at in range(len(text)):
                self.agree(text[:at] + text[at + 1:])

    def test_signs_more(self):
        for text in self.TEXTS[:4]:
            for at in range(len(text) + 1):
                for sign in " -+01,/.\nax":
                    self.agree(text[:at] + sign + text[at:])

    def test_signs_put_otherwise(self):
        for text in self.TEXTS[:4]:
            for at in range(len(text)):
                for sign in " -0,/.\nzA":
                    self.agree(text[:at] + sign + text[at + 1:])


if __name__ == "__main__":
    unittest.main()
