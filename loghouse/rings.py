"""Papers that a house goes beyond all bounds: a way, a loop, a last way, and what is looked at behind it."""

from loghouse.kinds import is_between
from loghouse.lattices import basis
from loghouse.forms import value_of
from loghouse.ways import end_from, form_ahead, forms_at, is_way, numbers_from, passage_of, passed_on, still
from loghouse.ways import values_of

MOST_LENGTH = 60
# The values of a ring come round with this period if they come round at all, whatever the number of registers,
# and do so from the last of these rounds on.
TURN = 12
ROUNDS = 4


def widened(rows, row):
    """The basis of rows and one more, None if this one is a sum of fractions of the others."""
    wider = basis(rows + [row], len(row))
    return wider if len(wider) > len(rows) else None


def ways_apart(house):
    """For each place pairs (way, values) with ways to it; all other values are between or in line with theirs."""
    found = [[] for _ in range(house.places)]
    rows = [[] for _ in range(house.places)]
    layer = [(0, "", house.start)]
    while layer != []:
        further = []
        for place, way, numbers in layer:
            wider = widened(rows[place], (1,) + numbers)
            if wider is None:
                continue
            rows[place] = wider
            found[place].append((way, numbers))
            for source, deed, target, forms, _ in house.arrows:
                if source == place:
                    further.append((target, way + deed, values_of(forms, numbers)))
        layer = further
    return found


def looks_apart(house):
    """For each place triples (way, index, form) of looked-at forms led back along ways; all others are sums of them."""
    found = [[] for _ in range(house.places)]
    rows = [[] for _ in range(house.places)]
    layer = [
        (place, "", index, form)
        for place in range(house.places) for index, form in enumerate(forms_at(house, place))
    ]
    while layer != []:
        further = []
        for place, way, index, form in layer:
            wider = widened(rows[place], form[1:])
            if wider is None:
                continue
            rows[place] = wider
            found[place].append((way, index, form))
            for source, deed, target, forms, _ in house.arrows:
                if target == place:
                    further.append((source, deed + way, index, form_ahead(forms, form)))
        layer = further
    return found


def table_of(forms, points, looks):
    """What all looks behind a passage show for all points ahead of it."""
    behind = [values_of(forms, numbers) for _, numbers in points]
    return tuple([value_of(form, numbers) for _, _, form in looks for numbers in behind])


def times_done(forms, rounds):
    """The passage of as many rounds."""
    done = still(len(forms))
    for _ in range(rounds):
        done = passed_on(done, forms)
    return done


def endless_paper(forms, loop, points, looks):
    """A paper with a loop and one of these ways to it and looks behind it, None if none shows endlessly many."""
    early = times_done(forms, ROUNDS)
    turn = times_done(early, TURN // ROUNDS)
    late = passed_on(early, turn)
    for way, numbers in points:
        ahead, behind = values_of(early, numbers), values_of(late, numbers)
        for last, index, form in looks:
            if value_of(form, ahead) != value_of(form, behind):
                return ("beyond", way, loop, last, index)
    return None


def ring_paper(house):
    """A paper with a loop as short as can be, None if all ways come to finitely many unlike ones."""
    points, looks = ways_apart(house), looks_apart(house)
    layer = [(place, place, "", still(len(house.start))) for place in range(house.places) if points[place] != []]
    met = {}
    while layer != []:
        further = []
        for place, end, way, forms in layer:
            key = (place, end, table_of(forms, points[place], looks[end]))
            if key in met:
                continue
            met[key] = True
            paper = endless_paper(forms, way, points[place], looks[place]) if place == end and way != "" else None
            if paper is not None:
                return paper
            for source, deed, target, step, _ in house.arrows:
                if source == end:
                    further.append((place, target, way + deed, passed_on(forms, step)))
        layer = further
    return None


def are_words(house, way, loop, last):
    """Whether three values are a way, a way back to its end, and a way from there, none of them too long."""
    for word in (way, loop, last):
        if not isinstance(word, str) or len(word) > MOST_LENGTH:
            return False
    if loop == "" or not is_way(house, 0, way):
        return False
    place = end_from(house, 0, way)
    return is_way(house, place, loop) and end_from(house, place, loop) == place and is_way(house, place, last)


def last_form(house, paper):
    """The form of the registers behind the first way that has the value which is looked at behind the last one."""
    _, way, loop, last, index = paper
    place = end_from(house, 0, way)
    looked = forms_at(house, end_from(house, place, last))[index]
    return form_ahead(passage_of(house, place, last), looked)


def ring_of(house, paper):
    """The registers behind the first way, the passage of the loop, and the form that is looked at."""
    way, loop = paper[1:3]
    numbers = numbers_from(house, 0, house.start, way)
    return numbers, passage_of(house, end_from(house, 0, way), loop), last_form(house, paper)


def is_endless(house, paper):
    """Whether the values that a loop shows are endlessly many."""
    numbers, forms, form = ring_of(house, paper)
    count = len(house.start)
    turn = 2 if count == 1 else TURN
    shown = []
    for _ in range(2 * count + 2 + turn):
        shown.append(value_of(form, numbers))
        numbers = values_of(forms, numbers)
    return shown[count + 1:2 * count + 2] != shown[count + 1 + turn:]


def beyond_holds(house, thing):
    """Whether a tuple of five is a paper that a house goes beyond all bounds, its first word not asked."""
    _, way, loop, last, index = thing
    if not are_words(house, way, loop, last):
        return False
    looked = forms_at(house, end_from(house, end_from(house, 0, way), last))
    return is_between(index, 0, len(looked) - 1) and is_endless(house, thing)
