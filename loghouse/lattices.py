"""Rows of integers, all of one length, and their sums with integers as factors."""

from itertools import combinations


def less(row, other, times):
    """A row less another one some times."""
    return tuple([number - times * further for number, further in zip(row, other)])


def cleared(rows, column):
    """A row with the least number in a column, and the others without it; None if the column has none."""
    pivot = None
    others = []
    for row in rows:
        if pivot is None and row[column] != 0:
            pivot = row
            continue
        while pivot is not None and row[column] != 0:
            pivot, row = row, less(pivot, row, pivot[column] // row[column])
        others.append(row)
    return pivot, others


def basis(rows, width):
    """The one basis, in steps, of all sums of the rows."""
    found = []
    for column in range(width):
        pivot, rows = cleared(rows, column)
        if pivot is not None:
            if pivot[column] < 0:
                pivot = less((0,) * width, pivot, 1)
            found = [less(row, pivot, row[column] // pivot[column]) for row in found] + [pivot]
    return found


def determinant(rows):
    """The determinant of as many rows as columns."""
    if len(rows) == 0:
        return 1
    total = 0
    sign = 1
    for at, number in enumerate(rows[0]):
        total += sign * number * determinant([row[:at] + row[at + 1:] for row in rows[1:]])
        sign = -sign
    return total


def picked(row, columns):
    """What a row has in some columns."""
    return tuple([row[column] for column in columns])


def main_columns(rows, width):
    """Columns in which the rows alone are independent, None if they are not."""
    if len(rows) > width:
        return None
    for columns in combinations(range(width), len(rows)):
        if determinant([picked(row, columns) for row in rows]) != 0:
            return columns
    return None


def without(row, at):
    """A row without one item."""
    return row[:at] + row[at + 1:]


def cofactor(square, at, column):
    """The determinant without a row and a column, with the sign that it has in the whole one."""
    part = determinant([without(row, column) for row in without(square, at)])
    return part if (at + column) % 2 == 0 else -part


def measure_of(rows, columns):
    """What tells how often each of some rows is in another one; columns are their main ones.

    That is the columns, the determinant there, and for each row what it is with a row of zeros and a one in its place.
    """
    square = [picked(row, columns) for row in rows]
    if len(rows) < 2:
        return columns, determinant(square), [(1,)] * len(rows)
    count = len(rows)
    parts = [tuple([cofactor(square, at, column) for column in range(count)]) for at in range(count)]
    return columns, sum([number * part for number, part in zip(square[0], parts[0])]), parts


def shares(rows, measure, wanted):
    """How often each row is in a row that is wanted, None if it is no sum of them."""
    columns, whole, parts = measure
    there = picked(wanted, columns)
    found = []
    for part in parts:
        share, rest = divmod(sum([number * other for number, other in zip(there, part)]), whole)
        if rest != 0:
            return None
        found.append(share)
    left = wanted
    for row, share in zip(rows, found):
        left = less(left, row, share)
    return tuple(found) if left == (0,) * len(wanted) else None
