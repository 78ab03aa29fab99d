"""Papers that a house stays within bounds: what is kept, and the spots."""

from loghouse.forms import is_form
from loghouse.keeping import all_in_kept, led_kept, led_tables
from loghouse.kinds import is_ascending, is_between, is_int, is_tuple_of
from loghouse.lattices import main_columns
from loghouse.ways import forms_at, values_of


def first_spot(house, kept):
    """The spot of the empty way."""
    return (0, values_of(kept[0], house.start))


def spots_met(house, kept, most):
    """The spots to which ways lead, ascending; None if there are more than most, where this is a number."""
    tables = led_tables(house, kept)
    layer = [first_spot(house, kept)]
    met = {layer[0]: True}
    while layer != []:
        further = []
        for place, values in layer:
            for deed in tables[place]:
                target, forms = tables[place][deed]
                spot = (target, values_of(forms, values))
                if spot not in met:
                    met[spot] = True
                    further.append(spot)
        if most is not None and len(met) > most:
            return None
        layer = further
    return tuple(sorted(list(met)))


def is_kept_here(house, thing):
    """Whether a value is a tuple of forms that are independent together with the form one."""
    width = len(house.start)
    if not is_tuple_of(thing, 0, width) or not all([is_form(width, form) for form in thing]):
        return False
    return main_columns([form[1:] for form in thing], width) is not None


def is_kept(house, thing):
    """Whether a value has right forms to keep for each place."""
    if not is_tuple_of(thing, house.places, house.places):
        return False
    if not all([is_kept_here(house, here) for here in thing]):
        return False
    looked = [all_in_kept(thing[place], forms_at(house, place)) for place in range(house.places)]
    led = [led_kept(house, thing, arrow) for arrow in house.arrows]
    return None not in looked and None not in led


def is_spot(kept, thing):
    """Whether a value is a place with an integer for each form kept there."""
    if not is_tuple_of(thing, 2, 2) or not is_between(thing[0], 0, len(kept) - 1):
        return False
    count = len(kept[thing[0]])
    return is_tuple_of(thing[1], count, count) and all([is_int(value) for value in thing[1]])


def are_closed(house, kept, spots):
    """Whether the first spot, and all to which spots lead, are among the spots."""
    tables = led_tables(house, kept)
    found = {spot: True for spot in spots}
    if first_spot(house, kept) not in found:
        return False
    for place, values in spots:
        for deed in tables[place]:
            target, forms = tables[place][deed]
            if (target, values_of(forms, values)) not in found:
                return False
    return True


def within_holds(house, thing):
    """Whether a tuple of three is a paper that a house stays within bounds, its first word not asked."""
    _, kept, spots = thing
    if not is_kept(house, kept):
        return False
    if not isinstance(spots, tuple) or not all([is_spot(kept, spot) for spot in spots]):
        return False
    return is_ascending(spots) and are_closed(house, kept, spots)
