"""Texts of houses: how their lines are written, and which can stand where."""

from loghouse.errors import BadText
from loghouse.parts import MOST_PEOPLE, MOST_PLACES
from loghouse.words import form_in, form_word, forms_in, letter_in, marks_in, marks_word
from loghouse.words import number_in, number_word, numbers_in

ORDER = ("people", "deed", "start", "places", "ends", "logs", "arrow", "test", "look")
REPEATED = ("deed", "arrow", "test", "look")


def line_of_numbers(kind, numbers):
    """A line that has integers behind its first word."""
    return " ".join([kind] + [number_word(number) for number in numbers])


def line_of_arrow(arrow):
    """The line of an arrow."""
    source, deed, target, forms, marks = arrow
    word = "/".join([form_word(form) for form in forms])
    return f"arrow {source} {deed} {target} {word} {marks_word(marks)}"


def line_of_test(test):
    """The line of a test."""
    source, deed, form, low, high = test
    return f"test {source} {deed} {form_word(form)} {number_word(low)} {number_word(high)}"


def lines_of_looks(looks):
    """The lines of all looks with one form or more."""
    return [
        " ".join([f"look {person} {place}"] + [form_word(form) for form in forms])
        for person, row in enumerate(looks)
        for place, forms in enumerate(row)
        if forms != ()
    ]


def house_lines(house):
    """All lines of the text of a house."""
    deeds = [f"deed {letter} {owner}" for letter, owner in house.deeds]
    start = [line_of_numbers("start", house.start), f"places {house.places}"]
    ends = [line_of_numbers("ends", house.ends), f"logs {house.logs}"]
    arrows = [line_of_arrow(arrow) for arrow in house.arrows]
    tests = [line_of_test(test) for test in house.tests]
    return [f"people {house.people}"] + deeds + start + ends + arrows + tests + lines_of_looks(house.looks)


def one_in(words):
    """The one integer that words write, otherwise None."""
    return number_in(words[0]) if len(words) == 1 else None


def deed_in(words):
    """The letter and the integer that words write, otherwise None."""
    if len(words) != 2:
        return None
    deed = (letter_in(words[0]), number_in(words[1]))
    return None if None in deed else deed


def start_in(words):
    """The one integer or more that words write, otherwise None."""
    return numbers_in(words) if words != [] else None


def ends_in(words):
    """The integers, perhaps none, that words write, otherwise None."""
    return numbers_in(words)


def arrow_in(words):
    """What the words of an arrow write, otherwise None."""
    if len(words) != 5:
        return None
    source, deed, target, forms, marks = words
    arrow = (
        number_in(source), letter_in(deed), number_in(target), forms_in(forms.split("/")), marks_in(marks),
    )
    return None if None in arrow else arrow


def test_in(words):
    """What the words of a test write, otherwise None."""
    if len(words) != 5:
        return None
    source, deed, form, low, high = words
    test = (number_in(source), letter_in(deed), form_in(form), number_in(low), number_in(high))
    return None if None in test else test


def look_in(words):
    """The person, the place and one form or more that words write, otherwise None."""
    if len(words) < 3:
        return None
    look = (number_in(words[0]), number_in(words[1]), forms_in(words[2:]))
    return None if None in look else look


READERS = {
    "people": one_in,
    "deed": deed_in,
    "start": start_in,
    "places": one_in,
    "ends": ends_in,
    "logs": one_in,
    "arrow": arrow_in,
    "test": test_in,
    "look": look_in,
}


def item_in(words):
    """What the words of a line write, its kind ahead; None if it is no line of any kind."""
    reader = READERS.get(words[0], None)
    return None if reader is None else reader(words[1:])


def may_follow(last, kind):
    """Whether a line of one kind may follow one of another; both are places in the order."""
    if kind == last:
        return ORDER[kind] in REPEATED
    return kind > last and all([word in REPEATED for word in ORDER[last + 1:kind]])


def is_look_there(look, rows):
    """Whether a look can stand behind the lines ahead of it."""
    person, place, _ = look
    if not 0 <= person < rows["people"][0] or not 0 <= place < rows["places"][0]:
        return False
    return rows["look"] == [] or rows["look"][-1][:2] < (person, place)


def rows_in(text):
    """A list of what the lines tell, for each kind of line; raises BadText."""
    rows = {kind: [] for kind in ORDER}
    lines = text.split("\n")
    last = -1
    for number, line in enumerate(lines, start=1):
        words = line.split(" ")
        item = item_in(words)
        if item is None or not may_follow(last, ORDER.index(words[0])):
            raise BadText(number)
        if words[0] == "look" and not is_look_there(item, rows):
            raise BadText(number)
        rows[words[0]].append(item)
        last = ORDER.index(words[0])
    if not may_follow(last, len(ORDER)):
        raise BadText(len(lines) + 1)
    return rows


def looks_in(rows):
    """The looks for each person and place."""
    told = {look[:2]: look[2] for look in rows["look"]}
    # A house with more people or places is refused ahead of its looks: no need to make room for them.
    people = min(rows["people"][0], MOST_PEOPLE)
    places = min(rows["places"][0], MOST_PLACES)
    return tuple([
        tuple([told.get((person, place), ()) for place in range(places)])
        for person in range(people)
    ])


def parts_in(text):
    """The parts that a text tells, right ones or not; raises BadText for any value that has no such lines."""
    if not isinstance(text, str):
        raise BadText(0)
    rows = rows_in(text)
    people, start, places, ends, logs = [rows[kind][0] for kind in ORDER if kind not in REPEATED]
    deeds, arrows, tests = tuple(rows["deed"]), tuple(rows["arrow"]), tuple(rows["test"])
    return people, deeds, start, places, ends, logs, arrows, tests, looks_in(rows)
