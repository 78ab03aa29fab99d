"""The least reader, worked out by its definition in [16] from what is written for all short tapes."""

import itertools


def shared(rows):
    """The longest tuple with which all rows begin."""
    rows = list(rows)
    part = rows[0]
    for row in rows:
        while part != row[:len(part)]:
            part = part[:-1]
    return part


def tapes_of(marks, most):
    for length in range(most + 1):
        yield from itertools.product(sorted(marks), repeat=length)


def least_parts(told, marks, ahead, behind):
    """The parts of the least reader.

    told is a dict that has for each tape of at most ahead + behind + 1 marks what is written for it. Beginnings of at
    most ahead marks come to all states, and behind marks more show what is sure and which kinds there are.
    """
    if not told:
        return 1, (), (), ()
    long = {}
    for tape, written in told.items():
        for at in range(len(tape) + 1):
            long.setdefault(tape[:at], {})[tape[at:]] = written
    sure = {begun: shared(rows.values()) for begun, rows in long.items()}

    def kind(begun):
        return frozenset(
            (rest, written[len(sure[begun]):]) for rest, written in long[begun].items() if len(rest) <= behind
        )

    numbers, first = {}, []
    for begun in tapes_of(marks, ahead):
        if begun in long and kind(begun) not in numbers:
            numbers[kind(begun)] = len(first)
            first.append(begun)
    moves, ends = [], []
    for state, begun in enumerate(first):
        for mark in sorted(marks):
            longer = begun + (mark,)
            if longer in long:
                moves.append((state, mark, sure[longer][len(sure[begun]):], numbers[kind(longer)]))
        if begun in told:
            ends.append((state, told[begun][len(sure[begun]):]))
    return len(first), sure[()], tuple(moves), tuple(ends)


def read(parts, marks):
    """What a reader with these parts has written behind marks, and its state; None if a move lacks."""
    _, first, moves, _ = parts
    state, written = 0, first
    for mark in marks:
        found = [move for move in moves if move[:2] == (state, mark)]
        if not found:
            return None
        written, state = written + found[0][2], found[0][3]
    return written, state


def written(parts, marks):
    """What it writes for a tape, None if it does not read it."""
    found = read(parts, marks)
    if found is None or found[1] not in dict(parts[3]):
        return None
    return found[0] + dict(parts[3])[found[1]]


def all_written(parts, marks, most):
    found = {tape: written(parts, tape) for tape in tapes_of(marks, most)}
    return {tape: row for tape, row in found.items() if row is not None}
