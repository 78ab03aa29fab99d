"""Stages of runs for a question: the stand, and whether each mark that is asked for stands on its tape.

A table of steps has for each stand a list: the deed, the stand behind it, what it writes on each tape of a row, and
whether it writes each mark that is asked for.
"""

from loghouse.questionparts import answer_of, marks_asked
from loghouse.tapes import first_marks, tape_steps, writing_of


def first_stage(floor, question):
    """The stage of the empty run."""
    return (0, tuple([mark in first_marks(floor, tape) for tape, mark in marks_asked(question)]))


def step_table(floor, row, question):
    """The table of steps of all stands."""
    asked = marks_asked(question)
    plain = tape_steps(floor, "deeds")
    tables = [tape_steps(floor, tape) for tape in row]
    hits = [tape_steps(floor, tape) for tape, mark in asked]
    return [
        [
            (
                deed, target, tuple([table[stand][at][2] for table in tables]),
                tuple([table[stand][at][2] == mark for table, (_, mark) in zip(hits, asked)]),
            ) for at, (deed, target, _) in enumerate(plain[stand])
        ] for stand in range(len(floor))
    ]


def useful_table(floor, row, question):
    """The table of steps between useful stands alone."""
    useful = {stand: True for stand in floor.useful}
    return [[step for step in steps if step[1] in useful] for steps in step_table(floor, row, question)]


def steps_from(table, stage):
    """The steps from a stage: the deed, the stage behind it, and what it writes on the row."""
    stand, met = stage
    return [
        (deed, (target, tuple([old or new for old, new in zip(met, hit)])), marks)
        for deed, target, marks, hit in table[stand]
    ]


def machine_of(table, begin):
    """A machine ([14]) of some stages and all to which steps lead from them."""
    machine = {}
    layer = begin
    while layer != []:
        further = []
        for stage in layer:
            if stage not in machine:
                machine[stage] = steps_from(table, stage)
                further.extend([target for _, target, _ in machine[stage]])
        layer = further
    return machine


def answer_at(floor, question, stage):
    """The answer at a stage."""
    stand, met = stage
    sights = [floor.seen(stand, person) for person in range(floor.house.people)]
    return answer_of(question, sights, met)[0]


def end_answers(floor, question, machine):
    """A dict of the ends among the stages of a machine: the answer there."""
    return {stage: answer_at(floor, question, stage) for stage in machine if floor.is_end(stage[0])}


def answer_behind(floor, question, run):
    """The answer for a run."""
    met = tuple([mark in writing_of(floor, tape, run) for tape, mark in marks_asked(question)])
    return answer_at(floor, question, (floor.stand_of(run), met))
