"""Tapes of a floor, and what they have behind runs."""

from loghouse.errors import NoTape
from loghouse.kinds import is_ascending, is_letter
from loghouse.words import numbers_word


def log_names(count):
    """The names of so many logs."""
    return [f"log{at}" for at in range(count)]


def sight_names(people):
    """The names of the sights of so many people."""
    return [f"sight{person}" for person in range(people)]


def logs_of(house):
    """The names of the logs."""
    return log_names(house.logs)


def sights_of(house):
    """The names of the sights."""
    return sight_names(house.people)


def tapes(floor):
    """The tuple of the tapes that are not blotted."""
    return tuple(["deeds"] + logs_of(floor.house) + sights_of(floor.house))


def parts_of(name):
    """The name of the tape that is blotted, and the letters that are not written on it."""
    plain, _, blots = name.partition("-")
    return plain, blots


def is_tape_among(people, logs, thing):
    """Whether any value is a tape of a floor with so many people and logs."""
    if not isinstance(thing, str):
        return False
    blotted = ["deeds"] + log_names(logs)
    if "-" not in thing:
        return thing in blotted + sight_names(people)
    plain, blots = parts_of(thing)
    if plain not in blotted:
        return False
    return blots != "" and all([is_letter(sign) for sign in blots]) and is_ascending(blots)


def is_tape(floor, thing):
    """Whether any value is a tape of a floor."""
    return is_tape_among(floor.house.people, floor.house.logs, thing)


def check_tape(floor, thing):
    """Raises NoTape if a value is no tape of a floor."""
    if not is_tape(floor, thing):
        raise NoTape(thing)


def written_on_log(floor, tape, stand, deed):
    """The letter that a deed which can be done writes on the tape of deeds or on a log, perhaps a blotted one."""
    plain, blots = parts_of(tape)
    letter = deed if plain == "deeds" else floor.marks(stand, deed)[logs_of(floor.house).index(plain)]
    return "" if letter in blots else letter


def written_on_sight(floor, person, stand, deed):
    """The mark that a deed which can be done writes on the sight of a person."""
    behind = floor.seen(floor.step(stand, deed), person)
    if (deed, person) in floor.house.deeds:
        return f"{deed}:{numbers_word(behind)}"
    return numbers_word(behind) if behind != floor.seen(stand, person) else ""


def mark_made(floor, tape, stand, deed):
    """The mark that a deed writes on what is known to be a tape, None if the deed cannot be done."""
    if floor.step(stand, deed) is None:
        return None
    sights = sights_of(floor.house)
    if tape in sights:
        return written_on_sight(floor, sights.index(tape), stand, deed)
    return written_on_log(floor, tape, stand, deed)


def first_marks(floor, tape):
    """The writing behind the empty run."""
    sights = sights_of(floor.house)
    return (numbers_word(floor.seen(0, sights.index(tape))),) if tape in sights else ()


def tape_steps(floor, tape):
    """For each stand a list of triples, by deeds: the deed, the stand behind it, and the mark that it writes."""
    letters = [letter for letter, owner in floor.house.deeds]
    return [
        [
            (deed, floor.step(stand, deed), mark_made(floor, tape, stand, deed))
            for deed in letters if floor.step(stand, deed) is not None
        ]
        for stand in range(len(floor))
    ]


def writing_of(floor, tape, run):
    """The writing behind a run of what is known to be a tape."""
    marks = list(first_marks(floor, tape))
    stand = 0
    for deed in run:
        mark = mark_made(floor, tape, stand, deed)
        if mark != "":
            marks.append(mark)
        stand = floor.step(stand, deed)
    return tuple(marks)


def written(floor, tape, run):
    """The writing of a tape behind a run."""
    check_tape(floor, tape)
    return writing_of(floor, tape, run)


def mark_of(floor, tape, stand, deed):
    """The mark that a deed writes on a tape, "" for nothing, None if the deed cannot be done."""
    check_tape(floor, tape)
    return mark_made(floor, tape, stand, deed)


def marks_on(floor, tape):
    """The ascending tuple of all marks that a tape has behind some run."""
    check_tape(floor, tape)
    found = {mark: True for mark in first_marks(floor, tape)}
    for steps in tape_steps(floor, tape):
        for _, _, mark in steps:
            if mark != "":
                found[mark] = True
    return tuple(sorted(list(found)))
