"""Another way to read texts of houses, by patterns, that the program is compared with."""

import re

NUMBER = r"(?:0|-?[1-9][0-9]{0,39})"
FORM = rf"{NUMBER}(?:,{NUMBER})+"
LINES = {
    "people": rf"people {NUMBER}",
    "deed": rf"deed [a-z] {NUMBER}",
    "start": rf"start(?: {NUMBER})+",
    "places": rf"places {NUMBER}",
    "ends": rf"ends(?: {NUMBER})*",
    "logs": rf"logs {NUMBER}",
    "arrow": rf"arrow {NUMBER} [a-z] {NUMBER} {FORM}(?:/{FORM})* (?:[a-z-]+|\.)",
    "test": rf"test {NUMBER} [a-z] {FORM} {NUMBER} {NUMBER}",
    "look": rf"look {NUMBER} {NUMBER}(?: {FORM})+",
}
BEHIND = {
    "": ("people",),
    "people": ("deed", "start"),
    "deed": ("deed", "start"),
    "start": ("places",),
    "places": ("ends",),
    "ends": ("logs",),
    "logs": ("arrow", "test", "look", "end"),
    "arrow": ("arrow", "test", "look", "end"),
    "test": ("test", "look", "end"),
    "look": ("look", "end"),
}


def form_of(word):
    return tuple(int(number) for number in word.split(","))


def numbers_of(line):
    return tuple(int(word) for word in line.split()[1:])


def arrow_of(line):
    _, source, deed, target, forms, marks = line.split()
    signs = "" if marks == "." else marks
    return (
        int(source), deed, int(target), tuple(form_of(word) for word in forms.split("/")),
        tuple(sign.strip("-") for sign in signs),
    )


def test_of(line):
    _, source, deed, form, low, high = line.split()
    return int(source), deed, form_of(form), int(low), int(high)


test_of.__test__ = False


def wrong_line(text):
    """The line that BadText must bear, None if all lines can stand."""
    ahead, people, places, last = "", 0, 0, (-1, -1)
    lines = text.split("\n")
    for at, line in enumerate(lines):
        kinds = [kind for kind in BEHIND[ahead] if kind != "end" and re.fullmatch(LINES[kind], line)]
        if kinds == []:
            return at + 1
        ahead = kinds[0]
        if ahead == "people":
            people = int(line.split()[1])
        elif ahead == "places":
            places = int(line.split()[1])
        elif ahead == "look":
            pair = tuple(int(word) for word in line.split()[1:3])
            if pair[0] not in range(people) or pair[1] not in range(places) or pair <= last:
                return at + 1
            last = pair
    return None if "end" in BEHIND[ahead] else len(lines) + 1


def parts_of(text):
    """The parts of a house that a text tells whose lines all stand."""
    lines = text.split("\n")
    rows = {kind: [line for line in lines if line.split(" ")[0] == kind] for kind in LINES}
    people, places = numbers_of(rows["people"][0])[0], numbers_of(rows["places"][0])[0]
    looks = {
        tuple(int(word) for word in line.split()[1:3]): tuple(form_of(word) for word in line.split()[3:])
        for line in rows["look"]
    }
    return {
        "people": people,
        "deeds": tuple((line.split()[1], int(line.split()[2])) for line in rows["deed"]),
        "start": numbers_of(rows["start"][0]),
        "places": places,
        "ends": numbers_of(rows["ends"][0]),
        "logs": numbers_of(rows["logs"][0])[0],
        "arrows": tuple(arrow_of(line) for line in rows["arrow"]),
        "tests": tuple(test_of(line) for line in rows["test"]),
        "looks": tuple(
            tuple(looks.get((person, place), ()) for place in range(min(places, 9)))
            for person in range(min(people, 9))
        ),
    }
