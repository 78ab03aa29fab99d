"""Whether what a tape tells of another one can be written in time, or left-overs drift apart."""

from loghouse.drifts import drift_between, is_drift_between
from loghouse.errors import Drifts, NotTold
from loghouse.kinds import is_tuple_of
from loghouse.paces import check_both
from loghouse.readers import Reader
from loghouse.tables import judged
from loghouse.writers import least_writer, left_beside


def check_told(floor, tape, other):
    """Raises NoTape for what is no tape, NotTold if the tape does not tell the other one."""
    check_both(floor, tape, other)
    paper = judged(floor, (tape,), other)
    if paper[0] == "parts":
        raise NotTold(paper)


def in_time_paper(floor, tape, other):
    """A paper with the least reader, or with a drift. The tape tells the other one."""
    drift = drift_between(floor, tape, other)
    return ("reader", least_writer(floor, tape, other)) if drift is None else ("drifts",) + drift


def in_time(floor, tape, other):
    """A paper that a tape can be written in time, or one that it cannot."""
    check_told(floor, tape, other)
    return in_time_paper(floor, tape, other)


def reader_of(floor, tape, other):
    """The least reader that reads a tape and writes the other one."""
    check_told(floor, tape, other)
    paper = in_time_paper(floor, tape, other)
    if paper[0] == "drifts":
        raise Drifts(paper)
    return paper[1]


def lag(floor, tape, other):
    """By how many marks the least reader comes behind the other tape at most, None if there is a drift."""
    check_told(floor, tape, other)
    paper = in_time_paper(floor, tape, other)
    if paper[0] == "drifts":
        return None
    left = left_beside(floor, tape, other, paper[1])
    return max([0] + [len(more) - len(begun) for more, begun in list(left.values())])


def in_time_holds(floor, tape, other, thing):
    """Whether any value is a paper that a tape can be written in time, or one that it cannot."""
    check_both(floor, tape, other)
    if judged(floor, (tape,), other)[0] == "parts":
        return False
    if is_tuple_of(thing, 2, 2) and thing[0] == "reader" and isinstance(thing[1], Reader):
        return left_beside(floor, tape, other, thing[1]) is not None
    if is_tuple_of(thing, 5, 5) and thing[0] == "drifts":
        return is_drift_between(floor, tape, other, thing[1:])
    return False
