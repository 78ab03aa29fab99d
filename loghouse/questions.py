"""Questions about days: their answers and texts, and whether rows of tapes tell them."""

from loghouse.asking import are_unlike_answers, asked_paper, does_row_answer, machine_with, told_holds
from loghouse.errors import BadQuestion
from loghouse.kinds import is_tuple_of
from loghouse.parts import MOST_LOGS, MOST_PEOPLE
from loghouse.questionparts import check_question, is_question_among
from loghouse.questiontext import question_told, words_of
from loghouse.rows import check_pace, check_row
from loghouse.stages import answer_behind, end_answers
from loghouse.tapes import writing_of


def is_question(floor, thing):
    """Whether any value is a question for a floor."""
    return is_question_among(floor.house.people, floor.house.logs, thing)


def answer(floor, question, run):
    """The answer for a run, a valid one."""
    check_question(floor, question)
    return answer_behind(floor, question, run)


def is_fixed(floor, question):
    """Whether all days have one answer, or there are no days."""
    check_question(floor, question)
    answers = end_answers(floor, question, machine_with(floor, (), question, []))
    return len(set(list(answers.values()))) < 2


def question_text(question):
    """The text of a question."""
    if not is_question_among(MOST_PEOPLE, MOST_LOGS, question):
        raise BadQuestion(question)
    return " ".join(words_of(question))


def question_in(floor, text):
    """The question for a floor with a text."""
    question = question_told(text) if isinstance(text, str) else None
    if not is_question(floor, question):
        raise BadQuestion(text)
    return question


def check_row_and_question(floor, row, question):
    """Raises NoTape, NoPace or BadQuestion for what is no row of tapes or no question."""
    check_row(floor, row)
    check_pace(floor, row)
    check_question(floor, question)


def asked(floor, row, question):
    """A paper that a row of tapes tells a question, or one that it does not."""
    check_row_and_question(floor, row, question)
    return asked_paper(floor, row, question)


def asked_holds(floor, row, question, thing):
    """Whether any value is a paper that a row of tapes tells a question, or one that it does not."""
    check_row_and_question(floor, row, question)
    if is_tuple_of(thing, 2, 2) and thing[0] == "told":
        return told_holds(floor, row, question, thing[1])
    if is_tuple_of(thing, 3, 3) and thing[0] == "parts":
        _, day, further = thing
        if not are_unlike_answers(floor, question, day, further):
            return False
        return all([writing_of(floor, tape, day) == writing_of(floor, tape, further) for tape in row])
    return False


def does_answer(floor, row, question):
    """Whether a row of tapes tells a question."""
    check_row_and_question(floor, row, question)
    return does_row_answer(floor, row, question)
