"""Rows of tries: where they lead, and what they tell people."""

from loghouse.errors import BadTries, OtherPeople


def check_people(floor, policy):
    """Raises OtherPeople if a policy is not for as many people as a floor has."""
    if policy.people != floor.house.people:
        raise OtherPeople()


def are_tries(floor, thing):
    """Whether a value is a string of deeds of a floor."""
    letters = {letter: True for letter, owner in floor.house.deeds}
    return isinstance(thing, str) and all([deed in letters for deed in thing])


def check_tries(floor, thing):
    """Raises BadTries if a value is no row of tries."""
    if not are_tries(floor, thing):
        raise BadTries(thing)


def stand_tried(floor, stand, tries):
    """The stand behind tries from a stand on; what cannot be done leaves it as it is."""
    for deed in tries:
        behind = floor.step(stand, deed)
        stand = stand if behind is None else behind
    return stand


def try_table(floor):
    """For each stand a dict of the deeds: the stand behind a try."""
    return [
        {deed: stand_tried(floor, stand, deed) for deed, owner in floor.house.deeds} for stand in range(len(floor))
    ]


def told_by(house, policy, rows):
    """For each of some rows of tries a list with a number for what each person is told, equal ones for the same."""
    owners = {deed: owner for deed, owner in house.deeds}
    numbers = {}
    found = []
    for row in rows:
        told = [0] * house.people
        for deed in row:
            said = told[owners[deed]]
            for person in policy.hearers(owners[deed]):
                told[person] = numbers.setdefault((told[person], said, deed), len(numbers) + 1)
        found.append(told)
    return found


def are_told_alike(floor, policy, tries, other, person):
    """Whether two rows of tries tell a person the same."""
    ones, others = told_by(floor.house, policy, [tries, other])
    return ones[person] == others[person]
