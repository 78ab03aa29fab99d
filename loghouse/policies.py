"""Policies: who hears whom."""

from loghouse.errors import BadPolicy, BadText, OtherPeople
from loghouse.kinds import is_ascending, is_between, is_tuple_of
from loghouse.parts import is_people
from loghouse.words import numbers_in


class Policy:
    """Pairs of different people: the second one hears the first one."""

    def __init__(self, people, pairs):
        if not is_people(people):
            raise BadPolicy("people")
        if not are_pairs(people, pairs):
            raise BadPolicy("pairs")
        self.people = people
        self.pairs = pairs

    def __len__(self):
        return len(self.pairs)

    def __eq__(self, other):
        return isinstance(other, Policy) and self.people == other.people and self.pairs == other.pairs

    def __or__(self, other):
        if self.people != other.people:
            raise OtherPeople()
        return Policy(self.people, tuple(sorted(set(self.pairs + other.pairs))))

    def __str__(self):
        return "\n".join([f"people {self.people}"] + [f"hears {pair[0]} {pair[1]}" for pair in self.pairs])

    @classmethod
    def read(cls, text):
        """The policy with a text."""
        people, pairs = parts_in(text)
        return cls(people, pairs)

    def hearers(self, person):
        """The ascending tuple of those who hear a person, themselves, too."""
        return tuple(sorted([person] + [hearer for heard, hearer in self.pairs if heard == person]))


def is_pair(people, thing):
    """Whether a value is a pair of different people."""
    if not is_tuple_of(thing, 2, 2) or not all([is_between(item, 0, people - 1) for item in thing]):
        return False
    return thing[0] != thing[1]


def are_pairs(people, thing):
    """Whether a value is an ascending tuple of pairs of different people."""
    return isinstance(thing, tuple) and all([is_pair(people, item) for item in thing]) and is_ascending(thing)


def numbers_behind_word(line, word):
    """The tuple of the integers behind the first word of a line; None if this is another word, or they are none."""
    words = line.split(" ")
    return numbers_in(words[1:]) if words[0] == word else None


def parts_in(text):
    """The people and the pairs that a text tells; raises BadText for any value that is no text of a policy."""
    if not isinstance(text, str):
        raise BadText(0)
    lines = text.split("\n")
    people = numbers_behind_word(lines[0], "people")
    if people is None or len(people) != 1 or not is_people(people[0]):
        raise BadText(1)
    pairs = []
    for number, line in enumerate(lines[1:], start=2):
        pair = numbers_behind_word(line, "hears")
        if not is_pair(people[0], pair) or pairs != [] and pair <= pairs[-1]:
            raise BadText(number)
        pairs.append(pair)
    return people[0], tuple(pairs)
