"""Lots of items: the least ones of a kind, if whatever has one of the kind in it is of the kind, too.

A lot is told by an integer: each item by one binary digit of it.
"""


def is_in(lot, other):
    """Whether one lot is in another one."""
    return lot & other == lot


def made_least(lot, count, is_one):
    """A least lot of the kind in a lot of the kind."""
    for at in range(count):
        item = 1 << at
        if is_in(item, lot) and is_one(lot - item):
            lot -= item
    return lot


def made_greatest(lot, count, is_one):
    """A lot that is not of the kind, as great as can be, around one that is not."""
    for at in range(count):
        item = 1 << at
        if not is_in(item, lot) and not is_one(lot + item):
            lot += item
    return lot


def items_of(items, lot):
    """The tuple of the items of a lot."""
    return tuple([item for at, item in enumerate(items) if is_in(1 << at, lot)])


def least_lots(items, is_kind):
    """The ascending tuple of the least lots of a kind, each the tuple of its items, which are ascending."""
    def is_one(lot):
        return is_kind(items_of(items, lot))

    count = len(items)
    least = []
    greatest = []
    for lot in range(1 << count):
        known = [True for one in least if is_in(one, lot)] + [True for other in greatest if is_in(lot, other)]
        if known != []:
            continue
        if is_one(lot):
            least.append(made_least(lot, count, is_one))
        else:
            greatest.append(made_greatest(lot, count, is_one))
    return tuple(sorted([items_of(items, lot) for lot in least]))
