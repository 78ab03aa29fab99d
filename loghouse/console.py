"""The console: commands as strings, each answered by a string."""

from loghouse.desk import Desk
from loghouse.errors import BadHouse, BadQuestion, BadText, Beyond, InvalidCommand, NoHouse, NoPace
from loghouse.floors import Floor
from loghouse.hearsay import respects
from loghouse.houses import House
from loghouse.intime import lag
from loghouse.kinds import is_between
from loghouse.paces import leads
from loghouse.policies import Policy
from loghouse.questions import does_answer, question_in
from loghouse.tapes import is_tape
from loghouse.telling import does_tell
from loghouse.words import number_in

WORDS = {True: "yes", False: "no", None: "unsure"}


def check_count(words, least, most):
    """Raises InvalidCommand if there are not as many words behind the first one."""
    if not least <= len(words) <= most:
        raise InvalidCommand()


def check_tapes(console, words):
    """Raises InvalidCommand if a word is no tape."""
    for word in words:
        if not is_tape(console._desk.floor, word):
            raise InvalidCommand()


def question_of(console, words):
    """The question that words tell."""
    try:
        return question_in(console._desk.floor, " ".join(words))
    except BadQuestion:
        raise InvalidCommand()


def person_of(console, word):
    """The person that a word tells."""
    person = number_in(word)
    if not is_between(person, 0, console._policy.people - 1):
        raise InvalidCommand()
    return person


def house_in(rest):
    """The house that a command tells."""
    if "\n" in rest:
        raise InvalidCommand()
    try:
        return House.read(rest.replace(";", "\n"))
    except (BadText, BadHouse):
        raise InvalidCommand()


def run_do(console, words):
    """Does a deed."""
    check_count(words, 1, 1)
    if words[0] not in [letter for letter, owner in console._desk.floor.house.deeds]:
        raise InvalidCommand()
    console._desk.do(words[0])
    return "ok"


def run_undo(console, words):
    """Takes a deed back."""
    check_count(words, 0, 0)
    console._desk.undo()
    return "ok"


def run_redo(console, words):
    """Does a deed again."""
    check_count(words, 0, 0)
    console._desk.redo()
    return "ok"


def run_tape(console, words):
    """The writing of a tape."""
    check_count(words, 1, 1)
    check_tapes(console, words)
    marks = console._desk.tape(words[0])
    return " ".join(marks) if marks != () else "."


def run_sure(console, words):
    """What a tape surely tells."""
    check_tapes(console, words[:1])
    question = question_of(console, words[1:])
    return WORDS[console._desk.sure((words[0],), question)]


def run_pace(console, words):
    """The least and the greatest lead of one tape to another one."""
    check_count(words, 2, 2)
    check_tapes(console, words)
    try:
        bounds = leads(console._desk.floor, words[0], words[1])
    except NoPace:
        return "drifts"
    if bounds == ():
        return "none"
    least = min([low for stand, low, high in bounds])
    return f"{least} {max([high for stand, low, high in bounds])}"


def run_tells(console, words):
    """Whether some tapes tell another one."""
    check_count(words, 2, len(words))
    check_tapes(console, words)
    row = tuple(words[1:])
    if len(set(row)) < len(row):
        raise InvalidCommand()
    return WORDS[does_tell(console._desk.floor, row, words[0])]


def run_lag(console, words):
    """By how many marks what can be written comes behind a tape."""
    check_count(words, 2, 2)
    check_tapes(console, words)
    marks = lag(console._desk.floor, words[0], words[1])
    return "endless" if marks is None else f"{marks}"


def run_asks(console, words):
    """Whether a tape tells a question."""
    check_tapes(console, words[:1])
    question = question_of(console, words[1:])
    return WORDS[does_answer(console._desk.floor, (words[0],), question)]


def run_hears(console, words):
    """Lets one person hear another one."""
    check_count(words, 2, 2)
    heard, hearer = [person_of(console, word) for word in words]
    if heard != hearer:
        console._policy = console._policy | Policy(console._policy.people, ((heard, hearer),))
    return "ok"


def run_respects(console, words):
    """Whether the house respects the policy."""
    check_count(words, 0, 0)
    return WORDS[respects(console._desk.floor, console._policy)]


ACTIONS = {
    "do": run_do,
    "undo": run_undo,
    "redo": run_redo,
    "tape": run_tape,
    "sure": run_sure,
    "pace": run_pace,
    "tells": run_tells,
    "lag": run_lag,
    "asks": run_asks,
    "hears": run_hears,
    "respects": run_respects,
}


class Console:
    """A desk on the floor of a house, and a policy, once there is a house."""

    def __init__(self):
        self._desk = None
        self._policy = None

    def run(self, command):
        """The answer to a command."""
        if not isinstance(command, str):
            raise InvalidCommand()
        word, _, rest = command.partition(" ")
        if word == "house":
            return self._begin(house_in(rest))
        if word not in ACTIONS:
            raise InvalidCommand()
        if self._desk is None:
            raise NoHouse()
        action = ACTIONS[word]
        return action(self, command.split(" ")[1:])

    def _begin(self, house):
        """Keeps a house with a new desk and a policy without pairs; the number of stands."""
        try:
            floor = Floor(house)
        except Beyond:
            return "beyond"
        self._desk = Desk(floor)
        self._policy = Policy(house.people, ())
        return f"{len(floor)}"
