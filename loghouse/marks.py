"""Tuples of marks: what two of them have in common at their beginnings, and what each has more."""


def is_mark(thing):
    """Whether a value is a string that is not empty."""
    return isinstance(thing, str) and thing != ""


def are_marks(thing):
    """Whether a value is a tuple of marks."""
    return isinstance(thing, tuple) and all([is_mark(mark) for mark in thing])


def in_common(ones, others):
    """How many marks two tuples have in common at their beginnings."""
    count = 0
    for mark, other in zip(ones, others):
        if mark != other:
            break
        count += 1
    return count


def apart(ones, others):
    """What each of two tuples has more, less what both have in common at their beginnings."""
    count = in_common(ones, others)
    return ones[count:], others[count:]


def parted(left):
    """Whether two left-overs begin with unlike marks."""
    return left[0] != () and left[1] != ()


def with_mark(marks, mark):
    """The tuple with a mark more, the same one for an empty mark."""
    return marks if mark == "" else marks + (mark,)


def is_left(thing):
    """Whether a value is a pair of tuples of marks, at least one of them empty."""
    if not isinstance(thing, tuple) or len(thing) != 2 or not are_marks(thing[0]) or not are_marks(thing[1]):
        return False
    return not parted(thing)
