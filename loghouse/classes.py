"""Numbers for things that look the same."""


def numbered(keys):
    """For each item of a dict a number, equal ones for equal items."""
    numbers = {}
    for name in keys:
        numbers.setdefault(keys[name], len(numbers))
    return {name: numbers[keys[name]] for name in keys}


def how_many(classes):
    """How many unlike numbers there are."""
    return len(set(list(classes.values())))
