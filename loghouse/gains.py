"""Leads of one tape to another one, on useful stands alone: what deeds gain, least bounds, drifts."""

from loghouse.tapes import first_marks, tape_steps


def first_lead(floor, tape, other):
    """The lead behind the empty run."""
    return len(first_marks(floor, tape)) - len(first_marks(floor, other))


def gains(floor, tape, other):
    """A dict that has for each useful stand a dict of deeds: the useful stand behind each, and its gain."""
    useful = {stand: True for stand in floor.useful}
    ones, others = tape_steps(floor, tape), tape_steps(floor, other)
    return {
        stand: {
            deed: (target, int(mark != "") - int(further != ""))
            for (deed, target, mark), (_, _, further) in zip(ones[stand], others[stand]) if target in useful
        } for stand in useful
    }


def lifted(edges, greatest):
    """One round more for the greatest leads: whether runs with one deed more have greater ones; these are put in."""
    changed = False
    for stand in edges:
        for target, gain in edges[stand].values():
            if stand in greatest and greatest[stand] + gain > greatest.get(target, greatest[stand] + gain - 1):
                greatest[target] = greatest[stand] + gain
                changed = True
    return changed


def greatest_leads(edges, lead):
    """A dict of the greatest lead behind runs to each stand, None if there is none for some."""
    if edges == {}:
        return {}
    greatest = {0: lead}
    # Runs without rings have fewer deeds than there are stands.
    for _ in range(len(edges)):
        if not lifted(edges, greatest):
            return greatest
    return None if lifted(edges, greatest) else greatest


def least_bounds(floor, tape, other):
    """The least bounds, None if the two do not keep pace."""
    edges = gains(floor, tape, other)
    lead = first_lead(floor, tape, other)
    turned = {
        stand: {deed: (target, -gain) for deed, (target, gain) in edges[stand].items()} for stand in edges
    }
    highs, lows = greatest_leads(edges, lead), greatest_leads(turned, -lead)
    if highs is None or lows is None:
        return None
    return tuple([(stand, -lows[stand], highs[stand]) for stand in floor.useful])


def paths_from(edges, stand):
    """For each stand that is reached from one: the first string of deeds to it, and its gain."""
    paths = {stand: ("", 0)}
    layer = [stand]
    while layer != []:
        further = []
        for here in layer:
            path, lead = paths[here]
            for deed, (target, gain) in edges[here].items():
                if target not in paths:
                    paths[target] = (path + deed, lead + gain)
                    further.append(target)
        layer = further
    return paths


def loop_with_gain(edges, paths, stand):
    """A string that leads from a stand back to it with a gain that is not 0, None if there is none."""
    for here in paths[stand]:
        path, lead = paths[stand][here]
        for deed, (target, gain) in edges[here].items():
            if stand in paths[target]:
                back, rest = paths[target][stand]
                # If none of these has a gain, no ring through the stand has one.
                if lead + gain + rest != 0:
                    return path + deed + back
    return None


def drift_of(floor, tape, other):
    """A paper that two tapes do not keep pace; there is one."""
    edges = gains(floor, tape, other)
    paths = {stand: paths_from(edges, stand) for stand in edges}
    for stand in edges:
        loop = loop_with_gain(edges, paths, stand)
        if loop is not None:
            return ("drifts", floor.first_run(stand), loop)
    return None


def pace_paper(floor, tape, other):
    """A paper that two tapes keep pace, or one that they do not."""
    bounds = least_bounds(floor, tape, other)
    return drift_of(floor, tape, other) if bounds is None else ("pace", bounds)
