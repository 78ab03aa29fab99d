"""What some tapes surely tell behind a run: the answers for all runs with the same writings."""

from loghouse.stages import answer_at, first_stage, step_table, steps_from
from loghouse.tapes import first_marks, writing_of


def reads_behind(writings, reads, marks):
    """How far each writing is read behind marks, None if one of them does not go on so."""
    found = []
    for writing, read, mark in zip(writings, reads, marks):
        if mark != "" and writing[read:read + 1] != (mark,):
            return None
        found.append(read + int(mark != ""))
    return tuple(found)


def nodes_behind(table, writings, node):
    """The stages, and how far each writing is read, behind each deed that writes nothing else."""
    stage, reads = node
    steps = [(target, reads_behind(writings, reads, marks)) for _, target, marks in steps_from(table, stage)]
    return [step for step in steps if step[1] is not None]


def stages_alike(floor, row, question, run):
    """A list of the stages of all runs with the same writings on a row of tapes as a run has."""
    table = step_table(floor, row, question)
    writings = [writing_of(floor, tape, run) for tape in row]
    whole = tuple([len(writing) for writing in writings])
    queue = [(first_stage(floor, question), tuple([len(first_marks(floor, tape)) for tape in row]))]
    met = {queue[0]: True}
    found = []
    while queue != []:
        node = queue.pop()
        if node[1] == whole:
            found.append(node[0])
        for behind in nodes_behind(table, writings, node):
            if behind not in met:
                met[behind] = True
                queue.append(behind)
    return found


def surely_told(floor, row, question, run):
    """True or False if this is the answer for all these runs, otherwise None."""
    answers = [answer_at(floor, question, stage) for stage in stages_alike(floor, row, question, run)]
    return answers[0] if len(set(answers)) == 1 else None
