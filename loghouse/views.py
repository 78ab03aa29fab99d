"""Views of slits: what a narrow look at a tape shows."""

from loghouse.kinds import is_ascending, is_int, is_tuple_of
from loghouse.marks import are_marks


def counted(pieces, most):
    """The ascending tuple of pieces with how often each one comes, or with most if more often."""
    counts = {}
    for piece in pieces:
        counts[piece] = min(counts.get(piece, 0) + 1, most)
    return tuple(sorted([(piece, counts[piece]) for piece in counts]))


def view_of(slit, marks):
    """The view of a tuple of marks."""
    width, most = slit
    if len(marks) < width:
        return ("whole", marks)
    pieces = [marks[at:at + width] for at in range(len(marks) - width + 1)]
    return ("slit", marks[:width - 1], marks[len(marks) - width + 1:], counted(pieces, most))


def view_with(slit, seen, mark):
    """The view of marks with one mark more, by the view of these marks."""
    if seen[0] == "whole":
        return view_of(slit, seen[1] + (mark,))
    _, first, last, pieces = seen
    piece = last + (mark,)
    counts = {known: count for known, count in pieces}
    counts[piece] = min(counts.get(piece, 0) + 1, slit[1])
    return ("slit", first, piece[1:], tuple(sorted([(known, counts[known]) for known in counts])))


def are_pieces(thing):
    """Whether a value is a tuple of pairs of marks and an integer."""
    if not isinstance(thing, tuple) or not all([is_tuple_of(item, 2, 2) for item in thing]):
        return False
    return all([are_marks(piece) and is_int(count) for piece, count in thing])


def is_view(thing):
    """Whether a value is made like a view."""
    if is_tuple_of(thing, 2, 2) and thing[0] == "whole":
        return are_marks(thing[1])
    if is_tuple_of(thing, 4, 4) and thing[0] == "slit":
        return are_marks(thing[1]) and are_marks(thing[2]) and are_pieces(thing[3])
    return False


def are_rows(thing):
    """Whether a value is an ascending tuple of pairs of what is made like a view and a bool."""
    if not isinstance(thing, tuple) or not all([is_tuple_of(item, 2, 2) for item in thing]):
        return False
    return all([is_view(seen) and isinstance(answer, bool) for seen, answer in thing]) and is_ascending(thing)
