"""Houses: what they are made of, their texts, and houses made from others."""

from loghouse.errors import BadHouse
from loghouse.housetext import house_lines, parts_in
from loghouse.kinds import is_letter
from loghouse.parts import are_deeds, are_ends, are_looks, check_arrows, check_tests
from loghouse.parts import is_logs, is_people, is_places, is_start


class House:
    """A machine with registers and places, the people at it, their deeds, and what they see."""

    def __init__(self, people, deeds, start, places, ends, logs, arrows, tests, looks):
        if not is_people(people):
            raise BadHouse("people")
        if not are_deeds(deeds, people):
            raise BadHouse("deeds")
        if not is_start(start):
            raise BadHouse("start")
        if not is_places(places):
            raise BadHouse("places")
        if not are_ends(ends, places):
            raise BadHouse("ends")
        if not is_logs(logs):
            raise BadHouse("logs")
        self.people = people
        self.deeds = deeds
        self.start = start
        self.places = places
        self.ends = ends
        self.logs = logs
        check_arrows(self, arrows)
        self.arrows = arrows
        check_tests(self, tests)
        self.tests = tests
        if not are_looks(self, looks):
            raise BadHouse("looks")
        self.looks = looks

    def __eq__(self, other):
        return (
            isinstance(other, House)
            and self.people == other.people
            and self.deeds == other.deeds
            and self.start == other.start
            and self.places == other.places
            and self.ends == other.ends
            and self.logs == other.logs
            and self.arrows == other.arrows
            and self.tests == other.tests
            and self.looks == other.looks
        )

    def __str__(self):
        return "\n".join(house_lines(self))

    @classmethod
    def read(cls, text):
        """The house with a text."""
        people, deeds, start, places, ends, logs, arrows, tests, looks = parts_in(text)
        return cls(people, deeds, start, places, ends, logs, arrows, tests, looks)

    def barred(self, deeds):
        """The house without the arrows and tests with these deeds."""
        arrows = tuple([arrow for arrow in self.arrows if arrow[1] not in deeds])
        tests = tuple([test for test in self.tests if test[1] not in deeds])
        return House(
            self.people, self.deeds, self.start, self.places, self.ends, self.logs, arrows, tests, self.looks,
        )

    def renamed(self, **letters):
        """The house with other letters for deeds."""
        new = {letter: letters.get(letter, letter) for letter, owner in self.deeds}
        if not all([is_letter(new[letter]) for letter in new]):
            raise BadHouse("deeds")
        # Two deeds with one letter are refused by House itself.
        deeds = [(new[letter], owner) for letter, owner in self.deeds]
        arrows = [
            (source, new[deed], target, forms, marks) for source, deed, target, forms, marks in self.arrows
        ]
        tests = [(source, new[deed], form, low, high) for source, deed, form, low, high in self.tests]
        return House(
            self.people, tuple(sorted(deeds)), self.start, self.places, self.ends, self.logs,
            tuple(sorted(arrows)), tuple(sorted(tests)), self.looks,
        )
