"""Integers and forms as words of texts."""

from loghouse.kinds import is_letter

MOST_DIGITS = 40
PIECE_DIGITS = 60
PIECE = 10 ** 60


def number_word(number):
    """The word of an integer, of any size."""
    # Python refuses to write some thousand digits at once.
    rest = abs(number)
    pieces = []
    while rest >= PIECE:
        rest, piece = divmod(rest, PIECE)
        pieces.append(str(piece).zfill(PIECE_DIGITS))
    sign = "-" if number < 0 else ""
    return sign + str(rest) + "".join(pieces[::-1])


def number_in(word):
    """The integer that a word writes as Python does, in at most 40 digits; otherwise None."""
    digits = word.removeprefix("-")
    if len(digits) > MOST_DIGITS or not digits.isascii() or not digits.isdigit():
        return None
    if digits.startswith("0") and word != "0":
        return None
    return int(word)


def numbers_in(words):
    """The tuple of the integers that words write, None if one of them writes none."""
    numbers = [number_in(word) for word in words]
    return None if None in numbers else tuple(numbers)


def letter_in(word):
    """The letter that a word is, otherwise None."""
    return word if is_letter(word) else None


def form_word(form):
    """The word of a form."""
    return ",".join([number_word(number) for number in form])


def form_in(word):
    """The form of any number of registers that a word writes, otherwise None."""
    numbers = numbers_in(word.split(","))
    return None if numbers is None or len(numbers) < 2 else numbers


def forms_in(words):
    """The tuple of the forms that words write, None if one of them writes none."""
    forms = [form_in(word) for word in words]
    return None if None in forms else tuple(forms)


def marks_word(marks):
    """The word of the marks of an arrow."""
    return "".join([mark if mark != "" else "-" for mark in marks]) if marks != () else "."


def marks_in(word):
    """The marks, for any number of logs, that a word writes, otherwise None."""
    if word == ".":
        return ()
    if word == "" or not all([is_letter(sign) or sign == "-" for sign in word]):
        return None
    return tuple([sign if sign != "-" else "" for sign in word])


def numbers_word(numbers):
    """The word of a tuple of integers, perhaps an empty one."""
    return form_word(numbers) if len(numbers) > 0 else "-"
