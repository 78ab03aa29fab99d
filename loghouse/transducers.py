"""What reads marks and writes marks: a tuple of what is written first, moves, and ends.

Moves are a dict that has for each state a dict of marks: what is written, and the next state. Ends are a dict of
states: what is written at the end of a tape. The first state is passed where it is asked for.
"""

from loghouse.classes import how_many, numbered
from loghouse.marks import in_common


def move_table(moves):
    """For each state a dict of marks: what is written, and the next state."""
    table = {}
    for state, mark, written, target in moves:
        table.setdefault(state, {})[mark] = (written, target)
    return table


def read_on(moves, state, marks):
    """What is written for marks from a state on, and the state behind them; None if a move lacks."""
    written = []
    for mark in marks:
        move = moves.get(state, {}).get(mark)
        if move is None:
            return None
        written.extend(move[0])
        state = move[1]
    return tuple(written), state


def reached(moves, start):
    """A dict of the states to which moves lead from a state, in the order of the first marks to each."""
    found = {start: True}
    layer = [start]
    while layer != []:
        further = []
        for state in layer:
            for mark in sorted(list(moves.get(state, {}))):
                target = moves[state][mark][1]
                if target not in found:
                    found[target] = True
                    further.append(target)
        layer = further
    return found


def outputs(moves, ends):
    """A dict of the states from which moves lead to an end: what some tape writes from there on, its end too."""
    back = {}
    for state in moves:
        for written, target in moves[state].values():
            back.setdefault(target, []).append((state, written))
    found = {state: ends[state] for state in ends}
    layer = list(ends)
    while layer != []:
        further = []
        for state in layer:
            for ahead, written in back.get(state, []):
                if ahead not in found:
                    found[ahead] = written + found[state]
                    further.append(ahead)
        layer = further
    return found


def trimmed(moves, ends, kept):
    """The moves and ends with some states alone."""
    fewer = {
        state: {mark: move for mark, move in moves.get(state, {}).items() if move[1] in kept} for state in kept
    }
    return fewer, {state: ends[state] for state in ends if state in kept}


def sure_parts(moves, ends):
    """For each state the longest beginning in common of all that is written from there on; each leads to an end."""
    sure = outputs(moves, ends)
    changed = True
    while changed:
        changed = False
        for state in list(sure):
            part = sure[state]
            others = [written + sure[target] for written, target in moves[state].values()]
            for other in others + [ends.get(state, part)]:
                part = part[:in_common(part, other)]
            changed = changed or part != sure[state]
            sure[state] = part
    return sure


def put_early(moves, ends, sure):
    """The moves and ends that write each mark as early as can be."""
    earlier = {
        state: {
            mark: ((written + sure[target])[len(sure[state]):], target)
            for mark, (written, target) in moves[state].items()
        } for state in moves
    }
    return earlier, {state: ends[state][len(sure[state]):] for state in ends}


def kinds_of(moves, ends):
    """For each state a number, equal ones for states from which the same is read and written."""
    classes = numbered({state: ends.get(state) for state in moves})
    count = 0
    while how_many(classes) != count:
        count = how_many(classes)
        classes = numbered({
            state: (classes[state], tuple([
                (mark, moves[state][mark][0], classes[moves[state][mark][1]]) for mark in sorted(list(moves[state]))
            ])) for state in moves
        })
    return classes


def joined(moves, ends, start):
    """The moves, ends and first state with states of one kind put together."""
    classes = kinds_of(moves, ends)
    fewer = {
        classes[state]: {mark: (written, classes[target]) for mark, (written, target) in moves[state].items()}
        for state in moves
    }
    return fewer, {classes[state]: ends[state] for state in ends}, classes[start]


def least_parts(first, moves, ends, start):
    """The parts of the least reader that reads the same tapes and writes the same."""
    kept = {state: True for state in outputs(moves, ends)}
    kept = {state: True for state in reached(moves, start) if state in kept}
    if start not in kept:
        return 1, (), (), ()
    moves, ends = trimmed(moves, ends, kept)
    sure = sure_parts(moves, ends)
    first = first + sure[start]
    moves, ends = put_early(moves, ends, sure)
    moves, ends, start = joined(moves, ends, start)
    numbers = {state: at for at, state in enumerate(list(reached(moves, start)))}
    rows = [
        (numbers[state], mark, written, numbers[target])
        for state in moves for mark, (written, target) in moves[state].items()
    ]
    return len(numbers), first, tuple(sorted(rows)), tuple(sorted([(numbers[state], ends[state]) for state in ends]))
