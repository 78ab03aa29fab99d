"""What is kept of the registers at each place: forms of which all that is looked at is a combination."""

from loghouse.lattices import basis, main_columns, measure_of, shares
from loghouse.ways import form_ahead, forms_at


def least_kept(house):
    """For each place a basis of all forms that looked-at forms become, led back along ways; constants left out."""
    width = len(house.start)
    rows = [basis([form[1:] for form in forms_at(house, place)], width) for place in range(house.places)]
    changed = True
    while changed:
        changed = False
        for arrow in house.arrows:
            led = [form_ahead(arrow[3], (0,) + row)[1:] for row in rows[arrow[2]]]
            wider = basis(rows[arrow[0]] + led, width)
            if wider != rows[arrow[0]]:
                rows[arrow[0]] = wider
                changed = True
    return tuple([tuple([(0,) + row for row in here]) for here in rows])


def ruler_of(kept_here, width):
    """What the forms that are kept at a place measure others by: their factors, their measure, their constants."""
    rows = [form[1:] for form in kept_here]
    return rows, measure_of(rows, main_columns(rows, width)), [form[0] for form in kept_here]


def in_kept(ruler, form):
    """A form written as a form of the values of those that are kept at its place; None if it is no combination."""
    rows, measure, constants = ruler
    found = shares(rows, measure, form[1:])
    if found is None:
        return None
    return (form[0] - sum([share * constant for share, constant in zip(found, constants)]),) + found


def all_in_kept(ruler, forms):
    """Forms written so, None if one of them is no combination."""
    written = [in_kept(ruler, form) for form in forms]
    return None if None in written else tuple(written)


def rulers_of(house, kept):
    """What each place measures forms by."""
    return [ruler_of(here, len(house.start)) for here in kept]


def led_kept(rulers, kept, arrow):
    """The forms kept at the target of an arrow, led back, written so; None if one of them is no combination."""
    return all_in_kept(rulers[arrow[0]], [form_ahead(arrow[3], form) for form in kept[arrow[2]]])


def led_tables(house, kept):
    """For each place a dict of deeds: the target of the arrow, and what it sets the kept values to."""
    rulers = rulers_of(house, kept)
    tables = [{} for _ in range(house.places)]
    for arrow in house.arrows:
        tables[arrow[0]][arrow[1]] = (arrow[2], led_kept(rulers, kept, arrow))
    return tables


def steps_led(tables):
    """The same as a list for each place: (deed, target, forms)."""
    return [[(deed,) + table[deed] for deed in table] for table in tables]
