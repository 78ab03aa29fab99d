"""Forms: sums of registers, each with a factor, and a constant."""

from loghouse.kinds import is_int, is_tuple_of


def is_form(count, thing):
    """Whether any value is a form of so many registers."""
    return is_tuple_of(thing, count + 1, count + 1) and all([is_int(item) for item in thing])


def value_of(form, values):
    """The value of a form for a tuple of integers."""
    return form[0] + sum([factor * value for factor, value in zip(form[1:], values)])
