"""The parts of questions: which values are right ones, and what is asked within a question."""

from loghouse.errors import BadQuestion
from loghouse.kinds import is_between, is_short, is_tuple_of
from loghouse.tapes import is_tape_among

MOST_NESTED = 4
MOST_SIGNS = 100


def is_asked_mark(thing):
    """Whether a value is a mark that can be asked for."""
    if not isinstance(thing, str) or not 1 <= len(thing) <= MOST_SIGNS:
        return False
    return all(["!" <= sign <= "~" for sign in thing])


def are_numbers(thing):
    """Whether a value is a tuple of integers, none of them too long."""
    return isinstance(thing, tuple) and all([is_short(item) for item in thing])


def is_question_within(people, logs, thing, depth):
    """Whether a value is a question with at most so many tuples within one another."""
    if depth == 0 or not is_tuple_of(thing, 2, 3) or not isinstance(thing[0], str):
        return False
    kind, parts = thing[0], thing[1:]
    if kind == "did":
        return len(parts) == 2 and is_tape_among(people, logs, parts[0]) and is_asked_mark(parts[1])
    if kind == "sees":
        return len(parts) == 2 and is_between(parts[0], 0, people - 1) and are_numbers(parts[1])
    if kind == "not" and len(parts) == 1 or kind in ("both", "either") and len(parts) == 2:
        return all([is_question_within(people, logs, part, depth - 1) for part in parts])
    return False


def is_question_among(people, logs, thing):
    """Whether any value is a question for a floor with so many people and logs."""
    return is_question_within(people, logs, thing, MOST_NESTED)


def check_question(floor, thing):
    """Raises BadQuestion if a value is no question for a floor."""
    if not is_question_among(floor.house.people, floor.house.logs, thing):
        raise BadQuestion(thing)


def marks_asked(question):
    """A list of all pairs (tape, mark) that are asked for, from the left."""
    if question[0] == "did":
        return [question[1:]]
    if question[0] == "sees":
        return []
    return [pair for part in question[1:] for pair in marks_asked(part)]


def answer_of(question, sights, met):
    """The answer behind a run, by what each person sees there and whether each mark stands on its tape.

    Of met as much is read as the question asks for; the answer and what is left of met are returned.
    """
    kind = question[0]
    if kind == "did":
        return met[0], met[1:]
    if kind == "sees":
        return sights[question[1]] == question[2], met
    answer, met = answer_of(question[1], sights, met)
    if kind == "not":
        return not answer, met
    other, met = answer_of(question[2], sights, met)
    return (answer and other if kind == "both" else answer or other), met
