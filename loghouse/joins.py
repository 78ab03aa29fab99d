"""Stands that people cannot tell apart by what they are told: joined ones, and the shortest rows for them."""

from loghouse.triples import Hearing, first_triples, people_met, person_shown


def root_of(parents, stand):
    """The stand that stands for all that are joined with one."""
    while parents[stand] != stand:
        stand = parents[stand]
    return stand


def are_joined(parents, stand, other):
    """Joins two stands; whether they were joined already."""
    one, two = root_of(parents, stand), root_of(parents, other)
    parents[max(one, two)] = min(one, two)
    return one == two


def joined_by_people(hearing):
    """A dict of the people of triples: for each stand one that stands for all joined with it by such triples.

    It is enough to go on from triples that join stands which were not joined yet.
    """
    table = people_met(hearing)
    count = len(hearing.tries)
    joins = {people: list(range(count)) for people in table if people != hearing.everybody}
    queue = [triple for triple, _ in first_triples(hearing)]
    while queue != []:
        stand, other, people = queue.pop()
        if not are_joined(joins[people], stand, other):
            ones, others = hearing.tries[stand], hearing.tries[other]
            queue.extend([
                (ones[deed], others[deed], table[people][deed])
                for deed in ones if table[people][deed] != hearing.everybody
            ])
    return joins


def blocks_for(joins, count, person):
    """The ascending tuple of the blocks of a person."""
    parents = list(range(count))
    for people in joins:
        if person not in people:
            for stand in range(count):
                are_joined(parents, stand, joins[people][stand])
    blocks = {}
    for stand in range(count):
        blocks.setdefault(root_of(parents, stand), []).append(stand)
    return tuple(sorted([tuple(block) for block in list(blocks.values())]))


def blocks_of(floor, policy, person):
    """The ascending tuple of the blocks of a person."""
    return blocks_for(joined_by_people(Hearing(floor, policy)), len(floor), person)


def is_respected(floor, policy):
    """Whether any two rows of tries that tell a person the same lead to stands at which this person sees the same."""
    joins = joined_by_people(Hearing(floor, policy))
    for person in range(floor.house.people):
        for block in blocks_for(joins, len(floor), person):
            if len(set([floor.seen(stand, person) for stand in block])) > 1:
                return False
    return True


def begun_by_length(floor, hearing):
    """A dict of lengths: pairs of a first triple and two rows of tries to it, the longer one of this length."""
    begun = {}
    for triple, (stand, deeds, others) in first_triples(hearing):
        row = floor.first_run(stand)
        begun.setdefault(len(row + deeds), []).append((triple, (None, (row + deeds, row + others))))
    return begun


def rows_to(met, triple):
    """Two rows of tries to a triple that was met: those to a first one, and what is tried behind both."""
    behind = ""
    ahead, told = met[triple]
    while ahead is not None:
        behind = told + behind
        ahead, told = met[ahead]
    row, other = told
    return row + behind, other + behind


def shortest_rows(floor, policy, is_wanted):
    """Two rows of tries to a triple that is wanted, the longer one as short as can be, and the triple; or None."""
    hearing = Hearing(floor, policy)
    table, waiting = people_met(hearing), begun_by_length(floor, hearing)
    # For each triple the one ahead of it and the deed, or None and both rows.
    met = {}
    layer = []
    length = 0
    while layer != [] or waiting != {}:
        further = []
        for triple, come in layer + waiting.pop(length, []):
            stand, other, people = triple
            # One stand twice, or what everybody hears of, leads to nothing that is wanted.
            if triple in met or stand == other or people == hearing.everybody:
                continue
            met[triple] = come
            if is_wanted(triple):
                return rows_to(met, triple), triple
            ones, others = hearing.tries[stand], hearing.tries[other]
            further.extend([
                ((ones[deed], others[deed], table[people][deed]), (triple, deed)) for deed in ones
            ])
        layer = further
        length += 1
    return None


def shown_rows(floor, policy):
    """Two rows of tries that tell a person the same and let them see unlike things, the longer one as short as can be.

    They come with the person; None if there are none.
    """
    found = shortest_rows(floor, policy, lambda triple: person_shown(floor, triple) is not None)
    return None if found is None else found[0] + (person_shown(floor, found[1]),)


def rows_apart(floor, policy, person, stands):
    """Two such rows of which the first one alone leads to one of some stands; None if there are none."""
    within = {stand: True for stand in stands}
    found = shortest_rows(
        floor, policy,
        lambda triple: person not in triple[2] and (triple[0] in within) != (triple[1] in within),
    )
    if found is None:
        return None
    rows, triple = found
    return rows if triple[0] in within else rows[::-1]
