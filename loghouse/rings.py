"""Papers that a house goes beyond all bounds: a way, a loop, a last way, and what is looked at behind it."""

from loghouse.forms import value_of
from loghouse.kinds import is_between
from loghouse.lattices import less
from loghouse.ways import end_from, form_ahead, forms_at, is_way, numbers_from, passage_of, passed_on, still
from loghouse.ways import values_of

MOST_LENGTH = 60
# The values of a ring come round with this period if they come round at all, whatever the number of registers,
# and do so from the last of these rounds on.
TURN = 12
ROUNDS = 4


def widened(rows, row):
    """Pairs (column, row) with a pair for one row more, None if this row is a sum of fractions of the others.

    Each row has a number in its column, where all behind it have none.
    """
    for column, other in rows:
        if row[column] != 0:
            times, further = other[column], row[column]
            row = tuple([times * number - further * pivot for number, pivot in zip(row, other)])
    for column, number in enumerate(row):
        if number != 0:
            return rows + [(column, row)]
    return None


def ways_apart(steps, first):
    """For each place pairs (way, values) with ways to it; all other values are between or in line with theirs."""
    found = [[] for _ in steps]
    rows = [[] for _ in steps]
    layer = [("", first)]
    while layer != []:
        further = []
        for way, (place, values) in layer:
            wider = widened(rows[place], (1,) + values)
            if wider is not None:
                rows[place] = wider
                found[place].append((way, values))
                further.extend([
                    (way + deed, (target, values_of(forms, values))) for deed, target, forms in steps[place]
                ])
        layer = further
    return found


class RingSearch:
    """Unlike ways from places to places at which something is kept, as far as they are met.

    A ring is looked for at the least of its places alone, so ways lead to no lesser one than where they begin.
    """

    def __init__(self, steps, first):
        self.points = ways_apart(steps, first)
        self.kept = [len(points[0][1]) if points != [] else 0 for points in self.points]
        # A ring through a place at which nothing is kept always shows the same.
        self.steps = [[step for step in row if self.kept[step[1]] > 0] for row in steps]
        self.queue = [(place, place, "", still(count)) for place, count in enumerate(self.kept) if count > 0]
        self.met = {key_of(self, place, end, forms): True for place, end, _, forms in self.queue}
        # How many of the queue were gone on from.
        self.taken = 0


def key_of(search, place, end, forms):
    """What tells a passage from all unlike ones."""
    points = search.points[place]
    if len(points) > search.kept[place]:
        return (place, end, forms)
    return (place, end, tuple([values_of(forms, values) for _, values in points]))


def early_and_late(forms):
    """The passages of the first rounds of a ring, and of a turn more; one and the same if the ring soon comes round."""
    twice = passed_on(forms, forms)
    early = passed_on(twice, twice)
    if early == twice:
        return early, early
    later = passed_on(early, early)
    return early, early if later == early else passed_on(later, later)


def endless_way(search, place, forms):
    """A way to a place behind which the values of a ring are endlessly many, None if there is none."""
    early, late = early_and_late(forms)
    if early == late:
        return None
    for way, values in search.points[place]:
        if values_of(early, values) != values_of(late, values):
            return way
    return None


def ring_met(search, most):
    """Goes on for about as many steps as are told; a way and a loop behind it if a ring is met, otherwise None."""
    queue, met = search.queue, search.met
    count = 0
    while search.taken < len(queue) and count < most:
        place, end, way, forms = queue[search.taken]
        search.taken += 1
        for deed, target, step in search.steps[end]:
            if target < place:
                continue
            count += 1
            further = passed_on(forms, step)
            key = key_of(search, place, target, further)
            if key in met:
                continue
            met[key] = True
            queue.append((place, target, way + deed, further))
            ahead = endless_way(search, place, further) if target == place else None
            if ahead is not None:
                return ahead, way + deed
    return None


def look_apart(house, place, numbers, others):
    """A way, and the index of what is looked at behind it, that shows some registers and others to be unlike."""
    rows = [[] for _ in range(house.places)]
    layer = [(place, "", numbers, others)]
    while layer != []:
        further = []
        for here, way, ones, twos in layer:
            for index, form in enumerate(forms_at(house, here)):
                if value_of(form, ones) != value_of(form, twos):
                    return way, index
            wider = widened(rows[here], less(ones, twos, 1))
            if wider is not None:
                rows[here] = wider
                further.extend([
                    (target, way + deed, values_of(forms, ones), values_of(forms, twos))
                    for source, deed, target, forms, _ in house.arrows if source == here
                ])
        layer = further
    return None


def ring_paper(house, way, loop):
    """A paper with a way and a loop that are endless."""
    place = end_from(house, 0, way)
    early = numbers_from(house, 0, house.start, way + loop * ROUNDS)
    late = numbers_from(house, place, early, loop * TURN)
    last, index = look_apart(house, place, early, late)
    return ("beyond", way, loop, last, index)


def are_words(house, way, loop, last):
    """Whether three values are a way, a way back to its end, and a way from there, none of them too long."""
    for word in (way, loop, last):
        if not isinstance(word, str) or len(word) > MOST_LENGTH:
            return False
    if loop == "" or not is_way(house, 0, way):
        return False
    place = end_from(house, 0, way)
    return is_way(house, place, loop) and end_from(house, place, loop) == place and is_way(house, place, last)


def last_form(house, paper):
    """The form of the registers behind the first way that has the value which is looked at behind the last one."""
    _, way, loop, last, index = paper
    place = end_from(house, 0, way)
    looked = forms_at(house, end_from(house, place, last))[index]
    return form_ahead(passage_of(house, place, last), looked)


def ring_of(house, paper):
    """The registers behind the first way, the passage of the loop, and the form that is looked at."""
    way, loop = paper[1:3]
    numbers = numbers_from(house, 0, house.start, way)
    return numbers, passage_of(house, end_from(house, 0, way), loop), last_form(house, paper)


def is_endless(house, paper):
    """Whether the values that a loop shows are endlessly many."""
    numbers, forms, form = ring_of(house, paper)
    count = len(house.start)
    turn = 2 if count == 1 else TURN
    shown = []
    for _ in range(2 * count + 2 + turn):
        shown.append(value_of(form, numbers))
        numbers = values_of(forms, numbers)
    return shown[count + 1:2 * count + 2] != shown[count + 1 + turn:]


def beyond_holds(house, thing):
    """Whether a tuple of five is a paper that a house goes beyond all bounds, its first word not asked."""
    _, way, loop, last, index = thing
    if not are_words(house, way, loop, last):
        return False
    looked = forms_at(house, end_from(house, end_from(house, 0, way), last))
    return is_between(index, 0, len(looked) - 1) and is_endless(house, thing)
