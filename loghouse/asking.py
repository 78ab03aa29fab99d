"""Whether a row of tapes tells a question: pairs of stages with rests, and days that are answered differently."""

from loghouse.floors import is_day
from loghouse.joint import is_closing, joint_graph, joint_steps, no_rests, ways_home
from loghouse.kinds import is_ascending, is_int, is_tuple_of
from loghouse.marks import is_left
from loghouse.questionparts import marks_asked
from loghouse.stages import answer_behind, end_answers, first_stage, machine_of, useful_table


def machine_with(floor, row, question, stages):
    """The machine of useful stages from the first one on, and from some others on."""
    begin = [first_stage(floor, question)] if floor.useful != () else []
    return machine_of(useful_table(floor, row, question), begin + stages)


def words_to(ahead, pair):
    """The two strings of deeds that lead to a pair from the first one."""
    words, others = [], []
    while ahead[pair] is not None:
        pair, deed, further = ahead[pair]
        words.append(deed)
        others.append(further)
    return "".join(words[::-1]), "".join(others[::-1])


def search(machine, answers, first):
    """Goes along joint steps from a pair on until two days have unlike answers.

    Returns a dict of the joint steps from each pair that was met, and the two days or None.
    """
    ahead = {first: None}
    graph = {}
    queue = [first]
    while len(graph) < len(queue):
        pair = queue[len(graph)]
        if is_closing(answers, pair) and answers[pair[0]] != answers[pair[1]]:
            day, further = words_to(ahead, pair)
            return graph, ((day, further) if answers[pair[0]] else (further, day))
        graph[pair] = joint_steps(machine, pair)
        for deed, further, target in graph[pair]:
            if target not in ahead:
                ahead[target] = (pair, deed, further)
                queue.append(target)
    return graph, None


def asked_paper(floor, row, question):
    """A paper that a row of tapes tells a question, or one that it does not."""
    machine = machine_with(floor, row, question, [])
    if machine == {}:
        return ("told", ())
    answers = end_answers(floor, question, machine)
    stage = first_stage(floor, question)
    graph, days = search(machine, answers, (stage, stage, no_rests(row)))
    if days is not None:
        return ("parts",) + days
    return ("told", tuple(sorted(list(ways_home(graph, answers)))))


def does_row_answer(floor, row, question):
    """Whether a row of tapes tells a question."""
    machine = machine_with(floor, row, question, [])
    if machine == {}:
        return True
    stage = first_stage(floor, question)
    return search(machine, end_answers(floor, question, machine), (stage, stage, no_rests(row)))[1] is None


def is_stage(useful, count, thing):
    """Whether a value is a useful stand with so many bools."""
    if not is_tuple_of(thing, 2, 2) or not is_int(thing[0]) or thing[0] not in useful:
        return False
    return is_tuple_of(thing[1], count, count) and all([isinstance(item, bool) for item in thing[1]])


def are_pairs(floor, row, question, thing):
    """Whether a value is an ascending tuple of pairs of stages with rests."""
    if not isinstance(thing, tuple):
        return False
    useful = {stand: True for stand in floor.useful}
    asked, rests = len(marks_asked(question)), len(row[1:])
    for item in thing:
        if not is_tuple_of(item, 3, 3) or not all([is_stage(useful, asked, stage) for stage in item[:2]]):
            return False
        if not is_tuple_of(item[2], rests, rests) or not all([is_left(pair) for pair in item[2]]):
            return False
    return is_ascending(thing)


def told_holds(floor, row, question, thing):
    """Whether any value is right pairs for a row of tapes and a question."""
    if not are_pairs(floor, row, question, thing):
        return False
    machine = machine_with(floor, row, question, [stage for item in thing for stage in item[:2]])
    if machine == {}:
        return True
    answers = end_answers(floor, question, machine)
    stage = first_stage(floor, question)
    first = (stage, stage, no_rests(row))
    pairs = {item: True for item in thing}
    graph = joint_graph(machine, [first] + list(pairs))
    home = ways_home(graph, answers)
    if first in home and first not in pairs:
        return False
    for pair in pairs:
        if is_closing(answers, pair) and answers[pair[0]] != answers[pair[1]]:
            return False
        if [True for step in graph[pair] if step[2] in home and step[2] not in pairs] != []:
            return False
    return True


def are_unlike_answers(floor, question, day, further):
    """Whether two values are days, the first one answered True, the other one False."""
    if not is_day(floor, day) or not is_day(floor, further):
        return False
    return answer_behind(floor, question, day) and not answer_behind(floor, question, further)
