"""Values that are like another one but for one thing, at any depth."""

from tests.wrong import wrong_kinds


def other_tuples(items):
    """The tuple with an item left out, twice, or exchanged with the next one, and reversed."""
    for at in range(len(items)):
        yield items[:at] + items[at + 1:]
        yield items[:at + 1] + items[at:]
        if at + 1 < len(items):
            yield items[:at] + (items[at + 1], items[at]) + items[at + 2:]
    yield items[::-1]


def other_values(value):
    """All values of the same kinds that differ from this one in one place."""
    if isinstance(value, bool) or value is None:
        yield from (True, False, None)
    elif isinstance(value, int):
        yield from (value + 1, value - 1, -value, value + 7, 10 ** 39)
    elif isinstance(value, str):
        yield from ("", "x", value + "a", value[:-1], value + value, "0", value[::-1], value + "\n")
    elif isinstance(value, tuple):
        yield from other_tuples(value)
        for at, item in enumerate(value):
            for other in other_values(item):
                yield value[:at] + (other,) + value[at + 1:]


def altered(value):
    """All these, and those with one thing of a wrong kind."""
    yield from other_values(value)
    yield from wrong_kinds(value)


def same(value, other):
    """Whether two values are equal in their kinds, too."""
    if isinstance(value, tuple) and isinstance(other, tuple):
        return len(value) == len(other) and all(same(one, two) for one, two in zip(value, other))
    return type(value) is type(other) and value == other
