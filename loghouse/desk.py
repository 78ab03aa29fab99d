"""The desk: a run on a floor, done deed by deed."""

from loghouse.errors import CannotDo, NothingToRedo, NothingToUndo
from loghouse.questionparts import check_question
from loghouse.rows import check_row
from loghouse.surely import surely_told
from loghouse.tapes import check_tape, writing_of


class Desk:
    """A run, and the deeds that were taken back and can be done again."""

    def __init__(self, floor):
        self.floor = floor
        self._run = ""
        self._stand = 0
        # The last one taken back stands last.
        self._undone = []

    def __len__(self):
        return len(self._run)

    @property
    def done(self):
        """The run."""
        return self._run

    @property
    def stand(self):
        """The stand to which the run comes."""
        return self._stand

    @property
    def is_day(self):
        """Whether the run is a day."""
        return self.floor.is_end(self._stand)

    def do(self, deed):
        """Does a deed."""
        behind = self.floor.step(self._stand, deed) if isinstance(deed, str) else None
        if behind is None:
            raise CannotDo(deed)
        self._run += deed
        self._stand = behind
        self._undone = []

    def undo(self):
        """Takes the last deed back."""
        if self._run == "":
            raise NothingToUndo()
        self._undone.append(self._run[-1])
        self._run = self._run[:-1]
        self._stand = self.floor.stand_of(self._run)

    def redo(self):
        """Does the deed again that was taken back last."""
        if self._undone == []:
            raise NothingToRedo()
        deed = self._undone.pop()
        self._stand = self.floor.step(self._stand, deed)
        self._run += deed

    def tape(self, tape):
        """The writing of a tape behind the run."""
        check_tape(self.floor, tape)
        return writing_of(self.floor, tape, self._run)

    def sure(self, row, question):
        """What some unlike tapes surely tell of a question behind the run: True, False or None."""
        check_row(self.floor, row)
        check_question(self.floor, question)
        return surely_told(self.floor, row, question, self._run)
