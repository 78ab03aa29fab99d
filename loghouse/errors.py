"""All errors that Loghouse raises. What an error tells is kept as it was passed."""


class HouseError(Exception):
    """The base class of all errors of this package."""


class BadHouse(HouseError):
    """A value is no house: the word for the part that is wrong, or the item that is."""

    def __init__(self, part):
        self.part = part


class BadText(HouseError):
    """A value is no text: the first line that cannot stand, from 1 on, or 0 for no string."""

    def __init__(self, line):
        self.line = line


class NoArrow(HouseError):
    """A way is none: the index of the first deed that no arrow takes."""

    def __init__(self, index):
        self.index = index


class Beyond(HouseError):
    """A house does not stay within bounds: a paper for it."""

    def __init__(self, paper):
        self.paper = paper


class CannotDo(HouseError):
    """A deed cannot be done: the deed, or what stood in its place."""

    def __init__(self, deed):
        self.deed = deed


class Unlike(HouseError):
    """Two floors differ in their people, deeds or logs."""


class NoTape(HouseError):
    """A value is no tape, or no row of tapes: the value."""

    def __init__(self, thing):
        self.thing = thing


class NoPace(HouseError):
    """Two tapes do not keep pace: a paper for it."""

    def __init__(self, paper):
        self.paper = paper


class NotTold(HouseError):
    """A row does not tell a tape: a paper for it."""

    def __init__(self, paper):
        self.paper = paper


class Drifts(HouseError):
    """A tape cannot be written in time: a paper for it."""

    def __init__(self, paper):
        self.paper = paper


class BadReader(HouseError):
    """A value is no reader: the word for the part that is wrong."""

    def __init__(self, part):
        self.part = part


class BadQuestion(HouseError):
    """A value is no question, or no text of one: the value."""

    def __init__(self, thing):
        self.thing = thing


class BadPolicy(HouseError):
    """A value is no policy: the word for the part that is wrong."""

    def __init__(self, part):
        self.part = part


class OtherPeople(HouseError):
    """A policy is for another number of people."""


class BadTries(HouseError):
    """A value is no row of tries: the value."""

    def __init__(self, tries):
        self.tries = tries


class NothingToUndo(HouseError):
    """All deeds of a desk are taken back already."""


class NothingToRedo(HouseError):
    """No deed of a desk can be done again."""


class NoHouse(HouseError):
    """A console has no house yet."""


class InvalidCommand(HouseError):
    """A value is no command of a console."""
