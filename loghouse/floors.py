"""Floors: the least machine that does what a house does, if it stays within bounds."""

from loghouse.errors import Beyond, CannotDo, Unlike
from loghouse.stands import stands_of, useful_among
from loghouse.values import judge_bounds


class Floor:
    """The stands of a house, numbered in the order of their first runs."""

    def __init__(self, house):
        paper = judge_bounds(house)
        if paper[0] == "beyond":
            raise Beyond(paper)
        self.house = house
        rows = stands_of(house, paper[1])
        self._runs = tuple([row[0] for row in rows])
        self._seen = tuple([row[1] for row in rows])
        self._ends = tuple([row[2] for row in rows])
        self._steps = tuple([row[3] for row in rows])
        self._useful = useful_among(rows)

    def __len__(self):
        return len(self._runs)

    def __eq__(self, other):
        return (
            isinstance(other, Floor)
            and are_like(self, other)
            and self._seen == other._seen
            and self._ends == other._ends
            and self._steps == other._steps
        )

    def step(self, stand, deed):
        """The stand behind a deed, None if it cannot be done."""
        found = self._steps[stand].get(deed)
        return None if found is None else found[0]

    def marks(self, stand, deed):
        """The tuple of what a deed writes on the logs, None if it cannot be done."""
        found = self._steps[stand].get(deed)
        return None if found is None else found[1]

    def seen(self, stand, person):
        """What a person sees at a stand."""
        return self._seen[stand][person]

    def is_end(self, stand):
        """Whether the runs to a stand are days."""
        return self._ends[stand]

    def first_run(self, stand):
        """The first run, in order, to a stand."""
        return self._runs[stand]

    def stand_of(self, run):
        """The stand to which a run comes."""
        stand = 0
        for deed in run:
            further = self.step(stand, deed)
            if further is None:
                raise CannotDo(deed)
            stand = further
        return stand

    @property
    def useful(self):
        """The ascending tuple of the stands from which an end is reached."""
        return self._useful


def stand_after(floor, thing):
    """The stand behind a value that is a run, None if it is none."""
    if not isinstance(thing, str):
        return None
    try:
        return floor.stand_of(thing)
    except CannotDo:
        return None


def is_day(floor, thing):
    """Whether a value is a day."""
    stand = stand_after(floor, thing)
    return stand is not None and floor.is_end(stand)


def are_like(floor, other):
    """Whether two floors have the same people, deeds and logs."""
    house, further = floor.house, other.house
    return house.people == further.people and house.deeds == further.deeds and house.logs == further.logs


def shows(floor, stand):
    """All that shows at a stand at once."""
    sights = tuple([floor.seen(stand, person) for person in range(floor.house.people)])
    return (sights, floor.is_end(stand))


def parts(floor, other, stand, there, deed):
    """Whether a deed that can be done at one of two stands tells the houses apart, by what it writes or behind it."""
    behind, further = floor.step(stand, deed), other.step(there, deed)
    if behind is None or further is None:
        return True
    return floor.marks(stand, deed) != other.marks(there, deed) or shows(floor, behind) != shows(other, further)


def parting_row(floor, other):
    """The first string of deeds that tells two houses apart, None if there is none."""
    if not are_like(floor, other):
        raise Unlike()
    if shows(floor, 0) != shows(other, 0):
        return ""
    met = {(0, 0): True}
    layer = [("", 0, 0)]
    while layer != []:
        further = []
        for run, stand, there in layer:
            for deed, owner in floor.house.deeds:
                pair = (floor.step(stand, deed), other.step(there, deed))
                if pair == (None, None):
                    continue
                if parts(floor, other, stand, there, deed):
                    return run + deed
                if pair not in met:
                    met[pair] = True
                    further.append((run + deed, pair[0], pair[1]))
        layer = further
    return None
