"""What a house does, worked out deed by deed from its parts, apart from the package."""

import itertools


def value(form, numbers):
    return form[0] + sum(factor * number for factor, number in zip(form[1:], numbers, strict=True))


def arrow_of(house, place, deed):
    for arrow in house.arrows:
        if arrow[0] == place and arrow[1] == deed:
            return arrow
    return None


def done(house, state, deed):
    """The place and the registers behind a deed, tests not asked; None if no arrow takes it."""
    place, numbers = state
    arrow = arrow_of(house, place, deed)
    if arrow is None:
        return None
    return arrow[2], tuple(value(form, numbers) for form in arrow[3])


def way_state(house, way):
    """The place and the registers behind a way, None if it is none."""
    state = (0, house.start)
    for deed in way:
        state = state and done(house, state, deed)
    return state


def can(house, state, deed):
    place, numbers = state
    if arrow_of(house, place, deed) is None:
        return False
    return all(
        low <= value(form, numbers) <= high
        for source, letter, form, low, high in house.tests if (source, letter) == (place, deed)
    )


def run_state(house, run):
    """The place and the registers behind a run, None if it is none."""
    state = (0, house.start)
    for deed in run:
        if state is None or not can(house, state, deed):
            return None
        state = done(house, state, deed)
    return state


def letters(house):
    return [letter for letter, _ in house.deeds]


def strings(house, most):
    """All strings of deeds of a house, in order, of at most so many."""
    for length in range(most + 1):
        for deeds in itertools.product(letters(house), repeat=length):
            yield "".join(deeds)


def ways(house, most):
    """All ways of at most so many deeds, in order."""
    layer = [""]
    for _ in range(most + 1):
        yield from layer
        layer = [way + deed for way in layer for deed in letters(house) if way_state(house, way + deed)]


def runs(house, most):
    """All runs of at most so many deeds, in order."""
    layer = [("", (0, house.start))]
    for _ in range(most + 1):
        yield from (run for run, _ in layer)
        layer = [
            (run + deed, done(house, state, deed)) for run, state in layer for deed in letters(house)
            if can(house, state, deed)
        ]


def is_day(house, run):
    state = run_state(house, run)
    return state is not None and state[0] in house.ends


def days(house, most):
    return [run for run in runs(house, most) if is_day(house, run)]


def seen(house, state, person):
    """What a person sees at a place with some registers."""
    return tuple(value(form, state[1]) for form in house.looks[person][state[0]])


def sight(house, run, person):
    """What a person sees behind a run."""
    return seen(house, run_state(house, run), person)


def word(numbers):
    return ",".join(map(str, numbers)) or "-"


def mark_between(house, tape, ahead, deed, behind):
    """The mark that a deed writes on a tape which leads from one state to another one, "" for nothing."""
    plain, _, blots = tape.partition("-")
    if plain.startswith("sight"):
        person = int(plain[5:])
        if dict(house.deeds)[deed] == person:
            return deed + ":" + word(seen(house, behind, person))
        if seen(house, ahead, person) == seen(house, behind, person):
            return ""
        return word(seen(house, behind, person))
    letter = deed if plain == "deeds" else arrow_of(house, ahead[0], deed)[4][int(plain[3:])]
    return "" if letter in blots else letter


def mark(house, tape, run):
    """The mark that the last deed of a run writes on a tape, "" for nothing."""
    return mark_between(house, tape, run_state(house, run[:-1]), run[-1], run_state(house, run))


def writing(house, tape, run):
    """The writing of a tape behind a run."""
    state = (0, house.start)
    marks = [word(seen(house, state, int(tape[5:])))] if tape.startswith("sight") else []
    for deed in run:
        behind = done(house, state, deed)
        marks.append(mark_between(house, tape, state, deed, behind))
        state = behind
    return tuple(item for item in marks if item != "")


def tape_names(house):
    return (
        ["deeds"] + [f"log{at}" for at in range(house.logs)] + [f"sight{person}" for person in range(house.people)]
    )


def behaviour(house, state):
    """All that shows at a state at once: what is seen, whether it is an end, what deeds write."""
    place, numbers = state
    return (
        tuple(tuple(value(form, numbers) for form in row[place]) for row in house.looks),
        place in house.ends,
        tuple(
            (deed, arrow_of(house, place, deed)[4]) if can(house, state, deed) else None
            for deed in letters(house)
        ),
    )


def machine(house):
    """The least machine of a house whose registers have finitely many values: rows of [first run, behaviour, steps].

    Pairs of states are told apart one after the other, until no more are.
    """
    first = {(0, house.start): ""}
    queue = [(0, house.start)]
    for state in queue:
        for deed in letters(house):
            if can(house, state, deed) and done(house, state, deed) not in first:
                first[done(house, state, deed)] = first[state] + deed
                queue.append(done(house, state, deed))
    apart = {
        (one, two) for one in queue for two in queue if behaviour(house, one) != behaviour(house, two)
    }
    more = apart
    while more:
        more = {
            (one, two) for one in queue for two in queue if (one, two) not in apart and any(
                (done(house, one, deed), done(house, two, deed)) in apart
                for deed in letters(house) if can(house, one, deed)
            )
        }
        apart = apart | more
    kept = []
    for state in queue:
        if all((state, other) in apart for other in kept):
            kept.append(state)

    def number(state):
        return [(state, other) in apart for other in kept].index(False)

    return [
        [first[state], behaviour(house, state), {
            deed: number(done(house, state, deed)) for deed in letters(house) if can(house, state, deed)
        }] for state in kept
    ]
