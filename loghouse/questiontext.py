"""Texts of questions."""

from loghouse.questionparts import MOST_NESTED
from loghouse.words import number_in, number_word, numbers_in, numbers_word


def words_of(question):
    """A list of the words of a question."""
    if question[0] == "did":
        return list(question)
    if question[0] == "sees":
        return ["sees", number_word(question[1]), numbers_word(question[2])]
    return [question[0]] + [word for part in question[1:] for word in words_of(part)]


def sights_in(word):
    """The numbers that a word of what is seen writes, None if it writes none."""
    return () if word == "-" else numbers_in(word.split(","))


def question_at(words, at, depth):
    """The question that words tell from one of them on, and the index behind it; None if they tell none.

    Its parts may be wrong ones; it has at most as many tuples within one another as the depth tells.
    """
    kinds = {"did": 2, "sees": 2, "not": 1, "both": 2, "either": 2}
    if depth == 0 or at >= len(words) or words[at] not in kinds:
        return None
    kind, count = words[at], kinds[words[at]]
    at += 1
    if kind in ("did", "sees"):
        if at + count > len(words):
            return None
        ahead, behind = words[at:at + count]
        parts = [ahead, behind] if kind == "did" else [number_in(ahead), sights_in(behind)]
        return (kind,) + tuple(parts), at + count
    parts = []
    for _ in range(count):
        found = question_at(words, at, depth - 1)
        if found is None:
            return None
        parts.append(found[0])
        at = found[1]
    return (kind,) + tuple(parts), at


def question_told(text):
    """The question with a text, perhaps with wrong parts; None if a string tells none."""
    words = text.split(" ")
    found = question_at(words, 0, MOST_NESTED)
    return found[0] if found is not None and found[1] == len(words) else None
