"""Papers that a house stays within bounds: what is kept, and the spots."""

from loghouse.forms import is_form
from loghouse.keeping import all_in_kept, led_kept, led_tables, rulers_of
from loghouse.kinds import is_ascending, is_between, is_int, is_tuple_of
from loghouse.lattices import main_columns
from loghouse.ways import forms_at, values_of


def first_spot(house, kept):
    """The spot of the empty way."""
    return (0, values_of(kept[0], house.start))


class SpotSearch:
    """The spots to which ways lead, as far as they are met."""

    def __init__(self, first, steps):
        self.steps = steps
        self.queue = [first]
        self.met = {first: True}
        # How many of the queue were gone on from.
        self.taken = 0


def are_all_met(search, most):
    """Goes on for about as many steps as are told; whether all spots are met then."""
    queue, met, steps = search.queue, search.met, search.steps
    count = 0
    while search.taken < len(queue) and count < most:
        place, values = queue[search.taken]
        search.taken += 1
        for _, target, forms in steps[place]:
            spot = (target, values_of(forms, values))
            if spot not in met:
                met[spot] = True
                queue.append(spot)
        count += len(steps[place])
    return search.taken == len(queue)


def is_kept_here(house, thing):
    """Whether a value is a tuple of forms that are independent together with the form one."""
    width = len(house.start)
    if not is_tuple_of(thing, 0, width) or not all([is_form(width, form) for form in thing]):
        return False
    return main_columns([form[1:] for form in thing], width) is not None


def is_kept(house, thing):
    """Whether a value has right forms to keep for each place."""
    if not is_tuple_of(thing, house.places, house.places):
        return False
    if not all([is_kept_here(house, here) for here in thing]):
        return False
    rulers = rulers_of(house, thing)
    looked = [all_in_kept(rulers[place], forms_at(house, place)) for place in range(house.places)]
    led = [led_kept(rulers, thing, arrow) for arrow in house.arrows]
    return None not in looked and None not in led


def is_spot(kept, thing):
    """Whether a value is a place with an integer for each form kept there."""
    if not is_tuple_of(thing, 2, 2) or not is_between(thing[0], 0, len(kept) - 1):
        return False
    count = len(kept[thing[0]])
    return is_tuple_of(thing[1], count, count) and all([is_int(value) for value in thing[1]])


def are_closed(house, kept, spots):
    """Whether the first spot, and all to which spots lead, are among the spots."""
    tables = led_tables(house, kept)
    found = {spot: True for spot in spots}
    if first_spot(house, kept) not in found:
        return False
    for place, values in spots:
        for deed in tables[place]:
            target, forms = tables[place][deed]
            if (target, values_of(forms, values)) not in found:
                return False
    return True


def within_holds(house, thing):
    """Whether a tuple of three is a paper that a house stays within bounds, its first word not asked."""
    _, kept, spots = thing
    if not is_kept(house, kept):
        return False
    if not isinstance(spots, tuple) or not all([is_spot(kept, spot) for spot in spots]):
        return False
    return is_ascending(spots) and are_closed(house, kept, spots)
