"""What people are told, triples, blocks, worked out apart from the package, by [21] and [22]."""

import itertools

from tests import walking
from tests.papers import is_ascending, is_integer


def hears(pairs, hearer, heard):
    return hearer == heard or (heard, hearer) in pairs


def told(house, pairs, row):
    """What each person has been told behind a row of tries, as the document writes it down."""
    found = [()] * house.people
    for deed in row:
        owner = dict(house.deeds)[deed]
        found = [
            (found[person], found[owner], deed) if hears(pairs, person, owner) else found[person]
            for person in range(house.people)
        ]
    return found


def tried(house, state, deed):
    return walking.done(house, state, deed) if walking.can(house, state, deed) else state


def state_behind(house, row):
    """The place and the registers behind a row of tries."""
    state = (0, house.start)
    for deed in row:
        state = tried(house, state, deed)
    return state


def tries_tape(house, row, person):
    state = (0, house.start)
    marks = [walking.word(walking.seen(house, state, person))]
    for deed in row:
        behind = tried(house, state, deed)
        word = walking.word(walking.seen(house, behind, person))
        if dict(house.deeds)[deed] == person:
            marks.append(deed + ":" + word)
        elif walking.seen(house, behind, person) != walking.seen(house, state, person):
            marks.append(word)
        state = behind
    return tuple(marks)


def tries(house, most):
    """All rows of at most so many tries."""
    for length in range(most + 1):
        for row in itertools.product(walking.letters(house), repeat=length):
            yield "".join(row)


def try_at(floor, stand, deed):
    behind = floor.step(stand, deed)
    return stand if behind is None else behind


def stand_behind(floor, row):
    stand = 0
    for deed in row:
        stand = try_at(floor, stand, deed)
    return stand


def hearers(floor, pairs, person):
    return {other for other in range(floor.house.people) if hears(pairs, other, person)}


def first_triples(floor, pairs):
    house = floor.house
    found = set()
    for stand in range(len(floor)):
        for deed, owner in house.deeds:
            found.add((try_at(floor, stand, deed), stand, tuple(sorted(hearers(floor, pairs, owner)))))
            for other, further in house.deeds:
                if not hears(pairs, owner, further) and not hears(pairs, further, owner):
                    both = hearers(floor, pairs, owner) & hearers(floor, pairs, further)
                    one = try_at(floor, try_at(floor, stand, deed), other)
                    two = try_at(floor, try_at(floor, stand, other), deed)
                    found.add((one, two, tuple(sorted(both))))
    return found


def led_to(floor, pairs, triple):
    stand, other, people = triple
    found = []
    for deed, owner in floor.house.deeds:
        wider = set(people) | (hearers(floor, pairs, owner) if owner in people else set())
        found.append((try_at(floor, stand, deed), try_at(floor, other, deed), tuple(sorted(wider))))
    return found


def triples(floor, pairs):
    """All triples that are first or led to, without those with all people."""
    queue = list(first_triples(floor, pairs))
    met = set(queue)
    for triple in queue:
        for behind in led_to(floor, pairs, triple):
            if behind not in met:
                met.add(behind)
                queue.append(behind)
    return tuple(sorted(triple for triple in met if len(triple[2]) < floor.house.people))


def is_right(floor, triple):
    stand, other, people = triple
    return all(
        person in people or floor.seen(stand, person) == floor.seen(other, person) for person in range(floor.house.people)
    )


def blocks(floor, pairs, person):
    """The blocks of a person: stands are joined one triple after the other."""
    found = [{stand} for stand in range(len(floor))]
    for stand, other, people in triples(floor, pairs):
        if person not in people:
            one = next(block for block in found if stand in block)
            two = next(block for block in found if other in block)
            if one is not two:
                found.remove(two)
                one |= two
    return tuple(sorted(tuple(sorted(block)) for block in found))


def are_right_triples(floor, pairs, thing):
    people = floor.house.people
    if type(thing) is not tuple:
        return False
    for item in thing:
        if type(item) is not tuple or len(item) != 3 or type(item[2]) is not tuple:
            return False
        if not all(is_integer(stand) and stand in range(len(floor)) for stand in item[:2]):
            return False
        if not all(is_integer(person) and person in range(people) for person in item[2]) or not is_ascending(item[2]):
            return False
    if not is_ascending(thing) or not all(is_right(floor, triple) for triple in thing):
        return False
    needed = set(first_triples(floor, pairs)).union(*[led_to(floor, pairs, triple) for triple in thing])
    return {triple for triple in needed if len(triple[2]) < people} <= set(thing)


def are_right_rows(floor, pairs, row, other, person):
    house = floor.house
    for tried_row in (row, other):
        if type(tried_row) is not str or not set(tried_row) <= set(walking.letters(house)):
            return False
    if not is_integer(person) or person not in range(house.people):
        return False
    if told(house, pairs, row)[person] != told(house, pairs, other)[person]:
        return False
    ones, others = [walking.seen(house, state_behind(house, tried_row), person) for tried_row in (row, other)]
    return ones != others


def hearsay_right(floor, pairs, thing):
    """Whether any value is a paper of [22]."""
    if type(thing) is not tuple or len(thing) not in (2, 4) or type(thing[0]) is not str:
        return False
    if len(thing) == 2:
        return thing[0] == "kept" and are_right_triples(floor, pairs, thing[1])
    return thing[0] == "shown" and are_right_rows(floor, pairs, *thing[1:])


def all_pairs(people):
    return tuple(itertools.permutations(range(people), 2))


def all_policies(people):
    """The pairs of all policies for so many people."""
    pairs = all_pairs(people)
    for count in range(len(pairs) + 1):
        yield from itertools.combinations(pairs, count)
