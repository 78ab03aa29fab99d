"""From the spots to which runs lead to stands: those that no string of deeds tells apart are one."""

from loghouse.classes import how_many, numbered
from loghouse.keeping import all_in_kept, led_tables, rulers_of
from loghouse.spots import first_spot
from loghouse.ways import values_of


def seen_tables(house, kept):
    """For each place a tuple with what each person looks at, as forms of the kept values."""
    return [
        tuple([all_in_kept(ruler, row[place]) for row in house.looks])
        for place, ruler in enumerate(rulers_of(house, kept))
    ]


def test_tables(house, kept):
    """For each source and deed the tests as (forms, low, high), the forms being one of the kept values."""
    rulers = rulers_of(house, kept)
    tables = {arrow[:2]: [] for arrow in house.arrows}
    for source, deed, form, low, high in house.tests:
        tables[source, deed].append((all_in_kept(rulers[source], (form,)), low, high))
    return tables


def are_kept(tests, values):
    """Whether the tests of an arrow are kept by kept values."""
    return all([low <= values_of(forms, values)[0] <= high for forms, low, high in tests])


def steps_from(house, tables, tests, spot):
    """A dict of the deeds that can be done at a spot: the spot to which each leads."""
    place, values = spot
    steps = {}
    for deed in tables[place]:
        if are_kept(tests[place, deed], values):
            target, forms = tables[place][deed]
            steps[deed] = (target, values_of(forms, values))
    return steps


def spots_run(house, kept):
    """A dict of the spots to which runs lead: for each one its dict of steps."""
    tables, tests = led_tables(house, kept), test_tables(house, kept)
    layer = [first_spot(house, kept)]
    found = {layer[0]: {}}
    while layer != []:
        further = []
        for spot in layer:
            steps = steps_from(house, tables, tests, spot)
            found[spot] = steps
            for deed in steps:
                if steps[deed] not in found:
                    found[steps[deed]] = {}
                    further.append(steps[deed])
        layer = further
    return found


def looks_of(house, kept, found):
    """For each spot all that shows there at once: what is seen, whether it is an end, what each deed writes."""
    seen = seen_tables(house, kept)
    marks = {arrow[:2]: arrow[4] for arrow in house.arrows}
    looks = {}
    for place, values in found:
        sights = tuple([values_of(forms, values) for forms in seen[place]])
        written = tuple([
            marks[place, deed] if deed in found[place, values] else None for deed, owner in house.deeds
        ])
        looks[place, values] = (sights, place in house.ends, written)
    return looks


def classes_of(house, found, looks):
    """For each spot a number; two have one number if no string of deeds tells them apart."""
    letters = [letter for letter, owner in house.deeds]
    classes = numbered(looks)
    count = 0
    while how_many(classes) != count:
        count = how_many(classes)
        keys = {
            spot: (classes[spot], tuple([
                classes[found[spot][letter]] if letter in found[spot] else -1 for letter in letters
            ])) for spot in found
        }
        classes = numbered(keys)
    return classes


def stands_of(house, kept):
    """For each stand, in order: its first run, what is seen, whether it is an end, and its steps by deeds.

    The steps are a dict: the stand behind a deed, and what the deed writes.
    """
    found = spots_run(house, kept)
    looks = looks_of(house, kept, found)
    classes = classes_of(house, found, looks)
    spot = first_spot(house, kept)
    numbers = {classes[spot]: 0}
    layer = [("", spot)]
    rows = []
    while layer != []:
        further = []
        for run, spot in layer:
            sights, is_end, written = looks[spot]
            steps = {}
            for (deed, owner), marks in zip(house.deeds, written):
                if marks is not None:
                    target = found[spot][deed]
                    if classes[target] not in numbers:
                        numbers[classes[target]] = len(numbers)
                        further.append((run + deed, target))
                    steps[deed] = (numbers[classes[target]], marks)
            rows.append((run, sights, is_end, steps))
        layer = further
    return rows


def useful_among(rows):
    """The ascending tuple of the stands from which some string of deeds leads to an end."""
    useful = {at: True for at, row in enumerate(rows) if row[2]}
    changed = True
    while changed:
        more = [
            at for at, row in enumerate(rows)
            if at not in useful and [True for target, marks in list(row[3].values()) if target in useful] != []
        ]
        for at in more:
            useful[at] = True
        changed = more != []
    return tuple(sorted(list(useful)))
