"""Views of slits: what a narrow look at a tape shows."""


def counted(pieces, most):
    """The ascending tuple of pieces with how often each one comes, or with most if more often."""
    counts = {}
    for piece in pieces:
        counts[piece] = min(counts.get(piece, 0) + 1, most)
    return tuple(sorted([(piece, counts[piece]) for piece in counts]))


def view_of(slit, marks):
    """The view of a tuple of marks."""
    width, most = slit
    if len(marks) < width:
        return ("whole", marks)
    pieces = [marks[at:at + width] for at in range(len(marks) - width + 1)]
    return ("slit", marks[:width - 1], marks[len(marks) - width + 1:], counted(pieces, most))


def view_with(slit, seen, mark):
    """The view of marks with one mark more, by the view of these marks."""
    if seen[0] == "whole":
        return view_of(slit, seen[1] + (mark,))
    _, first, last, pieces = seen
    piece = last + (mark,)
    counts = {known: count for known, count in pieces}
    counts[piece] = min(counts.get(piece, 0) + 1, slit[1])
    return ("slit", first, piece[1:], tuple(sorted([(known, counts[known]) for known in counts])))
