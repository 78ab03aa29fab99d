"""Slits: whether a narrow look at a tape tells a question."""

from loghouse.asking import are_unlike_answers, machine_with
from loghouse.kinds import is_tuple_of
from loghouse.questionparts import check_question
from loghouse.stages import end_answers, first_stage
from loghouse.tapes import check_tape, first_marks, writing_of
from loghouse.views import are_rows, view_of, view_with

MOST_WIDTH = 3


def view(slit, marks):
    """What a slit shows of a tuple of marks."""
    return view_of(slit, marks)


class Looks:
    """Runs that come to useful stands, as far as their stages and views tell them apart."""

    def __init__(self, floor, tape, slit, question):
        self.slit = slit
        self.machine = machine_with(floor, (tape,), question, [])
        self.answers = end_answers(floor, question, self.machine)
        self.first = (first_stage(floor, question), view_of(slit, first_marks(floor, tape)))
        # For each pair of a stage and a view: the one ahead of it, and the deed.
        self.ahead = {self.first: None}


def run_to(looks, node):
    """A run to a pair of a stage and a view."""
    deeds = []
    while looks.ahead[node] is not None:
        node, deed = looks.ahead[node]
        deeds.append(deed)
    return "".join(deeds[::-1])


def nodes_behind(looks, node):
    """The deeds that can be done at a stage with a view, and the stages with views behind them."""
    stage, seen = node
    return [
        (deed, (target, seen if mark == "" else view_with(looks.slit, seen, mark)))
        for deed, target, (mark,) in looks.machine[stage]
    ]


def day_refused(looks, is_fine):
    """The first pair of an end with a view that is not fine, by view, answer and pair; None if all are."""
    queue = [looks.first] if looks.machine != {} else []
    taken = 0
    while taken < len(queue):
        node = queue[taken]
        taken += 1
        stage, seen = node
        if stage in looks.answers and not is_fine(seen, looks.answers[stage], node):
            return node
        for deed, behind in nodes_behind(looks, node):
            if behind not in looks.ahead:
                looks.ahead[behind] = (node, deed)
                queue.append(behind)
    return None


def judged(floor, tape, slit, question):
    """A paper that a slit at a tape tells a question, or one that it does not."""
    looks = Looks(floor, tape, slit, question)
    told = {}

    def is_fine(seen, answer, node):
        return told.setdefault(seen, (answer, node))[0] == answer

    node = day_refused(looks, is_fine)
    if node is None:
        return ("seen", tuple(sorted([(seen, told[seen][0]) for seen in told])))
    answer, other = told[node[1]]
    days = (run_to(looks, other), run_to(looks, node))
    return ("parts",) + (days if answer else days[::-1])


def seen_holds(floor, tape, slit, question, thing):
    """Whether any value is the tuple of all views of days with their answers."""
    if not are_rows(thing):
        return False
    rows = {seen: answer for seen, answer in thing}
    found = {}

    def is_fine(seen, answer, node):
        found.setdefault(seen, node)
        return rows.get(seen) == answer

    return day_refused(Looks(floor, tape, slit, question), is_fine) is None and len(found) == len(thing)


def check_tape_and_question(floor, tape, question):
    """Raises NoTape or BadQuestion for what is no tape or no question."""
    check_tape(floor, tape)
    check_question(floor, question)


def slit_asked(floor, tape, slit, question):
    """A paper that a slit at a tape tells a question, or one that it does not."""
    check_tape_and_question(floor, tape, question)
    return judged(floor, tape, slit, question)


def slit_holds(floor, tape, slit, question, thing):
    """Whether any value is a paper that a slit at a tape tells a question, or one that it does not."""
    check_tape_and_question(floor, tape, question)
    if is_tuple_of(thing, 2, 2) and thing[0] == "seen":
        return seen_holds(floor, tape, slit, question, thing[1])
    if is_tuple_of(thing, 3, 3) and thing[0] == "parts":
        _, day, further = thing
        if not are_unlike_answers(floor, question, day, further):
            return False
        return view_of(slit, writing_of(floor, tape, day)) == view_of(slit, writing_of(floor, tape, further))
    return False


def least_slits(floor, tape, question):
    """The ascending tuple of the slits that tell a question, while no narrower one does."""
    check_tape_and_question(floor, tape, question)
    tells = {}
    found = []
    for width in range(1, MOST_WIDTH + 1):
        for most in range(1, MOST_WIDTH + 1):
            # What a narrower slit tells is told by this one, too.
            known = tells.get((width - 1, most), False) or tells.get((width, most - 1), False)
            tells[width, most] = known or judged(floor, tape, (width, most), question)[0] == "seen"
            if tells[width, most] and not known:
                found.append((width, most))
    return tuple(found)
