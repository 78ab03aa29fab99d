"""Drifts: two runs with one writing of a tape whose left-overs on another tape do not stay the same along loops."""

from loghouse.floors import stand_after
from loghouse.joint import joint_graph, machine_on
from loghouse.marks import apart, parted
from loghouse.tables import left_behind, marks_by_deeds
from loghouse.tapes import writing_of

FIRST = (0, 0, ())


class Search:
    """The joint steps of two runs on a tape, and what was met of them."""

    def __init__(self, floor, tape, other):
        self.told = marks_by_deeds(floor, other)
        self.graph = joint_graph(machine_on(floor, (tape,)), [FIRST])
        # For each pair and what is left over there: the one ahead of it, and the joint step.
        self.ahead = {(FIRST, ((), ())): None}
        # For each pair the left-overs that were met there.
        self.lefts = {FIRST: {((), ()): True}}
        # For each pair at which left-overs begin with unlike marks: two runs to it.
        self.unlike = {}


def words_to(search, node, stop):
    """Two strings of deeds that lead to a pair with a left-over from an earlier one, or from the beginning."""
    words, others = [], []
    while node != stop and search.ahead[node] is not None:
        node, step = search.ahead[node]
        words.append(step[0])
        others.append(step[1])
    return "".join(words[::-1]), "".join(others[::-1])


def earlier_at(search, node, pair, left):
    """The node on the way to one that has the same pair and another left-over than is met behind it, or None."""
    while node is not None:
        if node[0] == pair and node[1] != left:
            return node
        above = search.ahead[node]
        node = None if above is None else above[0]
    return None


def follow(search, node, step, queue):
    """Goes along a joint step; returns a drift if the pair there was left behind with another left-over."""
    target = step[2]
    left = left_behind(search.told, node[0], step, node[1])
    if parted(left):
        if target not in search.unlike:
            run, further = words_to(search, node, None)
            search.unlike[target] = (run + step[0], further + step[1])
        return None
    known = search.lefts.setdefault(target, {})
    known[left] = True
    earlier = earlier_at(search, node, target, left) if len(known) > 1 else None
    if earlier is not None:
        loop, other_loop = words_to(search, node, earlier)
        return words_to(search, earlier, None) + (loop + step[0], other_loop + step[1])
    if (target, left) not in search.ahead:
        search.ahead[target, left] = (node, step)
        queue.append((target, left))
    return None


def drift_with_one_begun(search):
    """A drift of two runs one of which has all marks that the other one has, None if there is none."""
    # The last one first: a way on which left-overs grow is gone on with at once.
    queue = [(FIRST, ((), ()))]
    while queue != []:
        node = queue.pop()
        for step in search.graph[node[0]]:
            drift = follow(search, node, step, queue)
            if drift is not None:
                return drift
    return None


def pairs_behind(graph, runs):
    """For each pair to which joint steps lead from some: two strings of deeds, those of the first ones passed."""
    found = {pair: runs[pair] for pair in runs}
    layer = list(runs)
    while layer != []:
        further = []
        for pair in layer:
            for deed, other_deed, target in graph[pair]:
                if target not in found:
                    found[target] = (found[pair][0] + deed, found[pair][1] + other_deed)
                    further.append(target)
        layer = further
    return found


def writes(search, pair, step):
    """Whether a joint step writes something on the other tape."""
    return search.told[pair[0], step[0]] != "" or search.told[pair[1], step[1]] != ""


def order_left(graph, pairs):
    """Pairs in an order in which each one is left: behind all to which joint steps lead from it, rings apart."""
    met = {}
    order = []
    for start in pairs:
        stack = [(start, False)]
        while stack != []:
            pair, left = stack.pop()
            if left:
                order.append(pair)
            elif pair not in met:
                met[pair] = True
                stack.append((pair, True))
                stack.extend([(step[2], False) for step in graph[pair]])
    return order


def rings_among(graph, pairs):
    """A dict of pairs: a number, equal for two if joint steps lead from each of both to the other one."""
    back = {pair: [] for pair in pairs}
    for pair in pairs:
        for step in graph[pair]:
            back[step[2]].append(pair)
    numbers = {}
    for start in order_left(graph, pairs)[::-1]:
        stack = [start]
        while stack != []:
            pair = stack.pop()
            if pair not in numbers:
                numbers[pair] = start
                stack.extend(back[pair])
    return numbers


def drift_with_both_begun(search):
    """A drift of two runs that have unlike marks, None if there is none."""
    runs = pairs_behind(search.graph, search.unlike)
    rings = rings_among(search.graph, runs)
    for pair in runs:
        for step in search.graph[pair]:
            if rings[step[2]] == rings[pair] and writes(search, pair, step):
                back = pairs_behind(search.graph, {step[2]: ("", "")})[pair]
                return runs[pair] + (step[0] + back[0], step[1] + back[1])
    return None


def drift_between(floor, tape, other):
    """A drift as a tuple of four strings, None if there is none. The tape tells the other one."""
    if floor.useful == ():
        return None
    search = Search(floor, tape, other)
    drift = drift_with_one_begun(search)
    return drift_with_both_begun(search) if drift is None else drift


def is_drift_between(floor, tape, other, words):
    """Whether four values are a drift."""
    run, further, loop, other_loop = words
    if not all([isinstance(word, str) for word in words]):
        return False
    stands = (stand_after(floor, run), stand_after(floor, further))
    if stands[0] not in floor.useful or stands[1] not in floor.useful:
        return False
    if stands != (stand_after(floor, run + loop), stand_after(floor, further + other_loop)):
        return False
    for one, two in ((run, further), (run + loop, further + other_loop)):
        if writing_of(floor, tape, one) != writing_of(floor, tape, two):
            return False
    left = apart(writing_of(floor, other, run), writing_of(floor, other, further))
    return left != apart(writing_of(floor, other, run + loop), writing_of(floor, other, further + other_loop))
