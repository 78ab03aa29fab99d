"""Triples: two stands to which rows of tries lead, and the people who hear of what the rows differ in.

A triple with all people says nothing of anybody; such ones are left out.
"""

from loghouse.kinds import is_ascending, is_between, is_tuple_of
from loghouse.tries import try_table


class Hearing:
    """What a policy lets people hear of the deeds of a floor."""

    def __init__(self, floor, policy):
        self.tries = try_table(floor)
        self.everybody = tuple(range(floor.house.people))
        self.owners = {deed: owner for deed, owner in floor.house.deeds}
        self.audiences = [policy.hearers(person) for person in self.everybody]


def wider(hearing, people, deed):
    """The people of a triple behind a deed."""
    owner = hearing.owners[deed]
    if owner not in people:
        return people
    return tuple(sorted(set(people + hearing.audiences[owner])))


def unheard_pairs(hearing):
    """All triples (deed, other deed, people) of deeds whose owners do not hear one another, and those who hear both."""
    found = []
    for deed in hearing.owners:
        for other in hearing.owners:
            ones, others = hearing.audiences[hearing.owners[deed]], hearing.audiences[hearing.owners[other]]
            if hearing.owners[other] not in ones and hearing.owners[deed] not in others:
                found.append((deed, other, tuple([person for person in ones if person in others])))
    return found


def first_triples(hearing):
    """A list of pairs: a first triple, and what is tried at the stands that it leads from: two strings of deeds.

    These are told as (stand ahead of both, deeds, other deeds).
    """
    found = []
    apart = unheard_pairs(hearing)
    for stand, steps in enumerate(hearing.tries):
        for deed in steps:
            people = hearing.audiences[hearing.owners[deed]]
            if people != hearing.everybody:
                found.append(((steps[deed], stand, people), (stand, deed, "")))
        for deed, other, people in apart:
            behind = (hearing.tries[steps[deed]][other], hearing.tries[steps[other]][deed], people)
            found.append((behind, (stand, deed + other, other + deed)))
    return found


def wider_table(hearing, begin):
    """A dict of some people of triples and all that these become: for each deed the people behind it."""
    table = {}
    layer = list(begin)
    while layer != []:
        people = layer.pop()
        if people not in table:
            table[people] = {deed: wider(hearing, people, deed) for deed in hearing.owners}
            layer.extend(list(table[people].values()))
    return table


def people_met(hearing):
    """The table of the people of all triples that are first or led to."""
    return wider_table(hearing, [people for _, _, people in unheard_pairs(hearing)] + hearing.audiences)


def all_triples(floor, policy):
    """The ascending tuple of all triples that are first or led to."""
    hearing = Hearing(floor, policy)
    table = people_met(hearing)
    queue = [triple for triple, _ in first_triples(hearing)]
    met = {triple: True for triple in queue}
    while queue != []:
        stand, other, people = queue.pop()
        ones, others = hearing.tries[stand], hearing.tries[other]
        for deed in ones:
            triple = (ones[deed], others[deed], table[people][deed])
            if triple not in met and triple[2] != hearing.everybody:
                met[triple] = True
                queue.append(triple)
    return tuple(sorted(list(met)))


def is_triple(floor, thing):
    """Whether a value is two stands and an ascending tuple of people."""
    if not is_tuple_of(thing, 3, 3) or not all([is_between(stand, 0, len(floor) - 1) for stand in thing[:2]]):
        return False
    people = floor.house.people
    if not is_tuple_of(thing[2], 0, people) or not all([is_between(item, 0, people - 1) for item in thing[2]]):
        return False
    return is_ascending(thing[2])


def person_shown(floor, triple):
    """The first person who hears nothing of what a triple says, and sees unlike things; None if there is none."""
    stand, other, people = triple
    for person in range(floor.house.people):
        if person not in people and floor.seen(stand, person) != floor.seen(other, person):
            return person
    return None


def are_closed(floor, policy, found):
    """Whether the first triples, and all to which the triples of a dict lead, are in it, or have all people."""
    hearing = Hearing(floor, policy)
    table = wider_table(hearing, [triple[2] for triple in found])
    for triple, _ in first_triples(hearing):
        if triple not in found:
            return False
    for stand, other, people in found:
        ones, others = hearing.tries[stand], hearing.tries[other]
        for deed in ones:
            triple = (ones[deed], others[deed], table[people][deed])
            if triple not in found and triple[2] != hearing.everybody:
                return False
    return True


def kept_holds(floor, policy, thing):
    """Whether any value is an ascending tuple of right triples with all that are needed."""
    if not isinstance(thing, tuple) or not all([is_triple(floor, item) for item in thing]):
        return False
    if not is_ascending(thing) or [True for triple in thing if person_shown(floor, triple) is not None] != []:
        return False
    return are_closed(floor, policy, {triple: True for triple in thing})
