"""Ways to make a right value wrong, at any depth, whatever part of a house it is."""


def wrong_integers(number):
    """Values that stand nowhere for an integer."""
    return [number == 1, number != 1, str(number), (number,), [number], None, {}, {number: number}]


def wrong_letters(letter):
    """Values that stand nowhere for a letter, nor for a mark."""
    return [
        letter.upper(), letter + letter, letter + "\n", " " + letter, "`", "{", "-", "0", " ", "\n",
        (letter,), [letter], None, True, 1, {letter: letter},
    ]


def wrong_tuples(items):
    """Values that stand nowhere for a tuple."""
    return [list(items), {}, dict.fromkeys(range(len(items))), None, False, 0, "", "".join(map(str, items))]


def wrong_kinds(value):
    """All values that are like this one, but for one thing somewhere within that is of a wrong kind."""
    if isinstance(value, int):
        yield from wrong_integers(value)
    elif isinstance(value, str):
        if value != "":
            yield from wrong_letters(value)
        else:
            yield from (None, (), [], 0, False, " ", "-", ".", "A", "ab", "\n")
    elif not isinstance(value, tuple):
        # None, or an object of the package.
        yield from ((), [value], (value,), 0, False, "", "None", {})
    else:
        yield from wrong_tuples(value)
        for at, item in enumerate(value):
            for other in wrong_kinds(item):
                yield value[:at] + (other,) + value[at + 1:]


def other_lengths(value):
    """The tuple with one item less, with one twice, and with nothing or None more."""
    for at in range(len(value)):
        yield value[:at] + value[at + 1:]
        yield value[:at] + (value[at],) + value[at:]
    yield value + (None,)
    yield value + ((),)
    yield value + ("",)
    yield (None,) + value
