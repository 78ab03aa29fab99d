"""What is kept of the registers at each place: forms of which all that is looked at is a combination."""

from loghouse.lattices import basis, main_columns, shares
from loghouse.ways import form_ahead, forms_at


def least_kept(house):
    """For each place a basis of all forms that looked-at forms become, led back along ways; constants left out."""
    width = len(house.start)
    rows = [basis([form[1:] for form in forms_at(house, place)], width) for place in range(house.places)]
    changed = True
    while changed:
        changed = False
        for arrow in house.arrows:
            led = [form_ahead(arrow[3], (0,) + row)[1:] for row in rows[arrow[2]]]
            wider = basis(rows[arrow[0]] + led, width)
            if wider != rows[arrow[0]]:
                rows[arrow[0]] = wider
                changed = True
    return tuple([tuple([(0,) + row for row in here]) for here in rows])


def in_kept(kept_here, form):
    """A form written as a form of the values of those that are kept at its place; None if it is no combination."""
    rows = [other[1:] for other in kept_here]
    found = shares(rows, main_columns(rows, len(form) - 1), form[1:])
    if found is None:
        return None
    constant = form[0] - sum([share * other[0] for share, other in zip(found, kept_here)])
    return (constant,) + found


def all_in_kept(kept_here, forms):
    """Forms written so, None if one of them is no combination."""
    written = [in_kept(kept_here, form) for form in forms]
    return None if None in written else tuple(written)


def led_kept(house, kept, arrow):
    """The forms kept at the target of an arrow, led back, written so; None if one of them is no combination."""
    return all_in_kept(kept[arrow[0]], [form_ahead(arrow[3], form) for form in kept[arrow[2]]])


def led_tables(house, kept):
    """For each place a dict of deeds: the target of the arrow, and what it sets the kept values to."""
    tables = [{} for _ in range(house.places)]
    for arrow in house.arrows:
        tables[arrow[0]][arrow[1]] = (arrow[2], led_kept(house, kept, arrow))
    return tables
