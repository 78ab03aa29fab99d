"""Questions, stages, slits and what is surely told, worked out apart from the package, by [18] to [20] and [25]."""

import re

from tests import tellings, walking
from tests.papers import is_ascending, is_integer
from tests.tellings import is_left


def is_right_tape(house, thing):
    if type(thing) is not str:
        return False
    logs, people = range(house.logs), range(house.people)
    plain = ["deeds"] + [f"log{at}" for at in logs]
    if thing in plain + [f"sight{person}" for person in people]:
        return True
    found = re.fullmatch(r"([a-z0-9]+)-([a-z]+)", thing)
    return bool(found) and found[1] in plain and found[2] == "".join(sorted(set(found[2]))) and thing[-1] != "\n"


def is_right_question(house, thing, depth=4):
    """Whether any value is a question of [18]."""
    if depth < 1 or type(thing) is not tuple or not thing or type(thing[0]) is not str:
        return False
    kind, *parts = thing
    if kind == "did":
        if len(parts) != 2 or not is_right_tape(house, parts[0]) or type(parts[1]) is not str:
            return False
        return 1 <= len(parts[1]) <= 100 and all(33 <= ord(sign) <= 126 for sign in parts[1])
    if kind == "sees":
        if len(parts) != 2 or not is_integer(parts[0]) or parts[0] not in range(house.people):
            return False
        if type(parts[1]) is not tuple:
            return False
        return all(is_integer(number) and len(str(abs(number))) <= 40 for number in parts[1])
    if len(parts) != {"not": 1, "both": 2, "either": 2}.get(kind):
        return False
    return all(is_right_question(house, part, depth - 1) for part in parts)


def answer(house, question, run):
    """The answer for a run, by its writings and what is seen at its end."""
    kind = question[0]
    if kind == "did":
        return question[2] in walking.writing(house, question[1], run)
    if kind == "sees":
        return walking.sight(house, run, question[1]) == question[2]
    if kind == "not":
        return not answer(house, question[1], run)
    answers = [answer(house, part, run) for part in question[1:]]
    return all(answers) if kind == "both" else any(answers)


def text(question):
    """The text of a question."""
    kind = question[0]
    if kind == "did":
        return f"did {question[1]} {question[2]}"
    if kind == "sees":
        return f"sees {question[1]} {walking.word(question[2])}"
    return " ".join([kind] + [text(part) for part in question[1:]])


def dids(question):
    if question[0] == "did":
        return [question]
    return [did for part in question[1:] for did in dids(part)] if question[0] != "sees" else []


def answers_by(question, seen, met):
    """The answer by what each person sees, and an iterator over the bools for did."""
    kind = question[0]
    if kind == "did":
        return next(met)
    if kind == "sees":
        return seen[question[1]] == question[2]
    answers = [answers_by(part, seen, met) for part in question[1:]]
    return {"not": not answers[0], "both": all(answers), "either": any(answers)}[kind]


def stage_answer(floor, question, stage):
    seen = [floor.seen(stage[0], person) for person in range(floor.house.people)]
    return answers_by(question, seen, iter(stage[1]))


def first_stage(floor, question):
    return 0, tuple(did[2] in walking.writing(floor.house, did[1], "") for did in dids(question))


MARKS = {}


def mark_behind(floor, tape, stand, deed):
    # The floor is kept, so that no other one has its number.
    key = (id(floor), tape, stand, deed)
    if key not in MARKS:
        MARKS[key] = (tellings.mark_at(floor, tape, stand, deed), floor)
    return MARKS[key][0]


def stage_behind(floor, question, stage, deed):
    """The stage behind a deed, or the same one for no deed."""
    if not deed:
        return stage
    met = tuple(
        old or mark_behind(floor, did[1], stage[0], deed) == did[2] for old, did in zip(stage[1], dids(question))
    )
    return floor.step(stage[0], deed), met


def joint_steps(floor, row, question, pair):
    """The pairs of stages with rests to which joint steps lead."""
    stage, other, rests = pair
    return [
        (stage_behind(floor, question, stage, deed), stage_behind(floor, question, other, further), behind[2])
        for deed, further, behind in tellings.joint_steps(floor, row, (stage[0], other[0], rests))
    ]


def reached(floor, row, question, begin):
    met = {}
    queue = list(begin)
    for pair in queue:
        if pair not in met:
            met[pair] = joint_steps(floor, row, question, pair)
            queue.extend(met[pair])
    return met


def is_closed(floor, pair):
    return tellings.is_closed(floor, (pair[0][0], pair[1][0], pair[2]))


def open_pairs(floor, graph):
    """The open pairs of a graph, and for each closed one whether it is one, gone back from the closed ones."""
    back = {pair: [] for pair in graph}
    for pair, steps in graph.items():
        for step in steps:
            back[step].append(pair)
    found = {pair for pair in graph if is_closed(floor, pair)}
    queue = list(found)
    for pair in queue:
        for ahead in back[pair]:
            if ahead not in found:
                found.add(ahead)
                queue.append(ahead)
    return found


def first_pair(floor, row, question):
    stage = first_stage(floor, question)
    return (stage, stage, (((), ()),) * max(0, len(row) - 1))


def is_told(floor, row, question):
    """Whether a row tells a question: no two ends that joint steps lead to are answered unlike."""
    if not floor.useful:
        return True
    graph = reached(floor, row, question, [first_pair(floor, row, question)])
    return all(
        stage_answer(floor, question, pair[0]) == stage_answer(floor, question, pair[1])
        for pair in graph if is_closed(floor, pair)
    )


def is_right_stage(floor, question, thing):
    if type(thing) is not tuple or len(thing) != 2 or not is_integer(thing[0]) or thing[0] not in floor.useful:
        return False
    met = thing[1]
    return type(met) is tuple and len(met) == len(dids(question)) and all(type(item) is bool for item in met)


def is_right_pair(floor, row, question, thing):
    if type(thing) is not tuple or len(thing) != 3:
        return False
    if not is_right_stage(floor, question, thing[0]) or not is_right_stage(floor, question, thing[1]):
        return False
    rests = thing[2]
    return type(rests) is tuple and len(rests) == max(0, len(row) - 1) and all(map(is_left, rests))


def are_right_pairs(floor, row, question, thing):
    if type(thing) is not tuple or not all(is_right_pair(floor, row, question, item) for item in thing):
        return False
    if not is_ascending(thing):
        return False
    begin = [first_pair(floor, row, question)] if floor.useful else []
    graph = reached(floor, row, question, begin + list(thing))
    opened = open_pairs(floor, graph)
    needed = [pair for pair in begin if pair in opened]
    needed += [step for pair in thing for step in graph[pair] if step in opened]
    if not set(needed) <= set(thing):
        return False
    return all(
        stage_answer(floor, question, pair[0]) == stage_answer(floor, question, pair[1])
        for pair in thing if is_closed(floor, pair)
    )


def are_days(house, *things):
    return all(type(thing) is str and walking.is_day(house, thing) for thing in things)


def are_unlike(house, question, day, further):
    if not are_days(house, day, further):
        return False
    return answer(house, question, day) is True and answer(house, question, further) is False


def asked_right(floor, row, question, thing):
    """Whether any value is a paper of [19]."""
    if type(thing) is not tuple or len(thing) not in (2, 3) or type(thing[0]) is not str:
        return False
    if len(thing) == 2:
        return thing[0] == "told" and are_right_pairs(floor, row, question, thing[1])
    house = floor.house
    if thing[0] != "parts" or not are_unlike(house, question, *thing[1:]):
        return False
    return all(walking.writing(house, tape, thing[1]) == walking.writing(house, tape, thing[2]) for tape in row)


def view(slit, marks):
    """The view of [20], counted piece by piece."""
    width, most = slit
    if len(marks) < width:
        return ("whole", marks)
    places = range(len(marks) - width + 1)
    pieces = sorted({marks[at:at + width] for at in places})
    counts = tuple((piece, min(most, sum(marks[at:at + width] == piece for at in places))) for piece in pieces)
    return ("slit", marks[:width - 1], marks[len(marks) - width + 1:], counts)


def slit_rows(floor, tape, slit, question):
    """A dict of all views of days with the set of their answers.

    Of writings with one view, at one stage, the one that was met first is enough: whatever follows, their views stay
    the same.
    """
    house = floor.house
    if not floor.useful:
        return {}
    begin = (first_stage(floor, question), view(slit, walking.writing(house, tape, "")))
    met = {begin: ""}
    queue = [begin]
    found = {}
    for stage, seen in queue:
        run = met[stage, seen]
        if floor.is_end(stage[0]):
            found.setdefault(seen, set()).add(answer(house, question, run))
        for deed in walking.letters(house):
            if floor.step(stage[0], deed) in floor.useful:
                node = (
                    stage_behind(floor, question, stage, deed), view(slit, walking.writing(house, tape, run + deed)),
                )
                if node not in met:
                    met[node] = run + deed
                    queue.append(node)
    return found


def slit_right(floor, tape, slit, question, thing):
    """Whether any value is a paper of [20]."""
    house = floor.house
    if type(thing) is not tuple or len(thing) not in (2, 3) or type(thing[0]) is not str:
        return False
    if len(thing) == 2:
        rows = slit_rows(floor, tape, slit, question)
        if thing[0] != "seen" or any(len(answers) > 1 for answers in rows.values()):
            return False
        right = tuple(sorted((seen, min(answers)) for seen, answers in rows.items()))
        return thing[1] == right and repr(thing[1]) == repr(right)
    if thing[0] != "parts" or not are_unlike(house, question, *thing[1:]):
        return False
    one, other = [walking.writing(house, tape, day) for day in thing[1:]]
    return view(slit, one) == view(slit, other)


def sure(house, row, question, run):
    """What a row surely tells behind a run: all runs whose writings go on as these do, one deed after the other.

    Of runs to one state with the same writings so far and the same marks met, the first one is enough.
    """
    wanted = [walking.writing(house, tape, run) for tape in row]

    def node(other):
        lengths = []
        for tape, writing in zip(row, wanted):
            found = walking.writing(house, tape, other)
            if found != writing[:len(found)]:
                return None
            lengths.append(len(found))
        met = tuple(did[2] in walking.writing(house, did[1], other) for did in dids(question))
        return walking.run_state(house, other), tuple(lengths), met

    met = {node(""): ""}
    queue = [""]
    answers = set()
    for other in queue:
        if all(walking.writing(house, tape, other) == writing for tape, writing in zip(row, wanted)):
            answers.add(answer(house, question, other))
        state = walking.run_state(house, other)
        for deed in walking.letters(house):
            if walking.can(house, state, deed):
                behind = node(other + deed)
                if behind is not None and behind not in met:
                    met[behind] = other + deed
                    queue.append(other + deed)
    return answers.pop() if len(answers) == 1 else None
