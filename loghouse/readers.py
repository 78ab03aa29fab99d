"""Readers: what reads the marks of one tape one after the other, and writes another one."""

from loghouse.errors import BadReader
from loghouse.kinds import is_ascending, is_between, is_tuple_of
from loghouse.marks import are_marks, is_mark
from loghouse.transducers import least_parts, move_table, read_on

MOST_STATES = 10000


class Reader:
    """States, what is written first, and what is written for marks and at the end of a tape."""

    def __init__(self, states, first, moves, ends):
        if not is_between(states, 1, MOST_STATES):
            raise BadReader("states")
        if not are_marks(first):
            raise BadReader("first")
        if not are_moves(states, moves):
            raise BadReader("moves")
        if not are_ends(states, ends):
            raise BadReader("ends")
        self.states = states
        self.first = first
        self.moves = moves
        self.ends = ends
        self._moves = move_table(moves)
        self._ends = {state: written for state, written in ends}

    def __len__(self):
        return len(range(self.states))

    def __eq__(self, other):
        return (
            isinstance(other, Reader)
            and self.states == other.states
            and self.first == other.first
            and self.moves == other.moves
            and self.ends == other.ends
        )

    def written(self, marks):
        """What is written for a tape, None if it is not read."""
        found = read_on(self._moves, 0, marks)
        if found is None or found[1] not in self._ends:
            return None
        return self.first + found[0] + self._ends[found[1]]

    def begun(self, marks):
        """What is written behind marks, ends left out, None if a move lacks."""
        found = read_on(self._moves, 0, marks)
        return None if found is None else self.first + found[0]

    def least(self):
        """The least reader that reads the same tapes and writes the same."""
        states, first, moves, ends = least_parts(self.first, self._moves, self._ends, 0)
        return Reader(states, first, moves, ends)

    def then(self, other):
        """The least reader that writes what another one writes for what this one writes."""
        begin = read_on(other._moves, 0, self.first)
        if begin is None:
            return Reader(1, (), (), ())
        start = (0, begin[1])
        moves, ends = pairs_of(self, other, start)
        states, first, moves, ends = least_parts(other.first + begin[0], moves, ends, start)
        return Reader(states, first, moves, ends)


def is_move(states, thing):
    """Whether a value is by itself a move."""
    if not is_tuple_of(thing, 4, 4) or not is_between(thing[0], 0, states - 1) or not is_mark(thing[1]):
        return False
    return are_marks(thing[2]) and is_between(thing[3], 0, states - 1)


def are_moves(states, thing):
    """Whether a value is an ascending tuple of moves, no two with the same state and mark."""
    if not isinstance(thing, tuple) or not all([is_move(states, item) for item in thing]):
        return False
    return is_ascending([item[:2] for item in thing])


def are_ends(states, thing):
    """Whether a value is an ascending tuple of ends, no two of one state."""
    if not isinstance(thing, tuple) or not all([is_tuple_of(item, 2, 2) for item in thing]):
        return False
    if not all([is_between(state, 0, states - 1) and are_marks(written) for state, written in thing]):
        return False
    return is_ascending([state for state, written in thing])


def pair_moves(reader, other, pair):
    """A dict of the marks that one reader reads in its state, while another one reads what this one writes."""
    state, there = pair
    found = {}
    table = reader._moves.get(state, {})
    for mark in table:
        written, target = table[mark]
        behind = read_on(other._moves, there, written)
        if behind is not None:
            found[mark] = (behind[0], (target, behind[1]))
    return found


def pairs_of(reader, other, start):
    """The moves and ends of pairs of states of two readers, put behind one another."""
    moves = {}
    ends = {}
    layer = [start]
    while layer != []:
        further = []
        for pair in layer:
            if pair in moves:
                continue
            moves[pair] = pair_moves(reader, other, pair)
            further.extend([target for written, target in list(moves[pair].values())])
            if pair[0] in reader._ends:
                last = read_on(other._moves, pair[1], reader._ends[pair[0]])
                if last is not None and last[1] in other._ends:
                    ends[pair] = last[0] + other._ends[last[1]]
        layer = further
    return moves, ends
