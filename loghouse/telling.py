"""Whether a row of tapes tells a tape: what is on the tape for all days that are alike on the row."""

from itertools import combinations

from loghouse.errors import NotTold
from loghouse.fewest import fewest
from loghouse.floors import is_day
from loghouse.kinds import is_tuple_of
from loghouse.rows import check_row_and_tape, first_without_pace
from loghouse.tables import judged, table_holds
from loghouse.tapes import check_tape, logs_of, sights_of, writing_of


def tells(floor, row, tape):
    """A paper that a row of tapes tells a tape, or one that it does not."""
    check_row_and_tape(floor, row, tape)
    return judged(floor, row, tape)


def are_parted(floor, row, tape, day, further):
    """Whether two values are days that are alike on a row of tapes and not on a tape."""
    if not is_day(floor, day) or not is_day(floor, further):
        return False
    alike = [writing_of(floor, item, day) == writing_of(floor, item, further) for item in row]
    return all(alike) and writing_of(floor, tape, day) != writing_of(floor, tape, further)


def tells_holds(floor, row, tape, thing):
    """Whether any value is a paper that a row of tapes tells a tape, or one that it does not."""
    check_row_and_tape(floor, row, tape)
    if is_tuple_of(thing, 2, 2) and thing[0] == "tells":
        return table_holds(floor, row, tape, thing[1])
    if is_tuple_of(thing, 3, 3) and thing[0] == "parts":
        return are_parted(floor, row, tape, thing[1], thing[2])
    return False


def does_tell(floor, row, tape):
    """Whether a row of tapes tells a tape."""
    check_row_and_tape(floor, row, tape)
    return judged(floor, row, tape)[0] == "tells"


def least_table(floor, row, tape):
    """The least table."""
    check_row_and_tape(floor, row, tape)
    paper = judged(floor, row, tape)
    if paper[0] == "parts":
        raise NotTold(paper)
    return paper[1]


def fewest_deeds(floor, row, tape):
    """The least sum of the lengths of two days alike on a row and not on a tape, None if there are none."""
    check_row_and_tape(floor, row, tape)
    return fewest(floor, row, tape) if judged(floor, row, tape)[0] == "parts" else None


def least_tellers(floor, tape):
    """The ascending tuple of all rows of logs and sights that tell a tape, and no longer do if one is left out."""
    check_tape(floor, tape)
    names = [name for name in logs_of(floor.house) + sights_of(floor.house) if name != tape]
    found = []
    for count in range(len(names) + 1):
        # Names are ascending, so each row is.
        for row in list(combinations(names, count)):
            known = [True for least in found if all([name in row for name in least])] != []
            if not known and first_without_pace(floor, row) is None and judged(floor, row, tape)[0] == "tells":
                found.append(row)
    return tuple(sorted(found))
