"""The desk: a run on a floor, done deed by deed."""

from loghouse.errors import CannotDo, NothingToRedo, NothingToUndo
from loghouse.questionparts import check_question
from loghouse.rows import check_row
from loghouse.surely import surely_told
from loghouse.tapes import check_tape, writing_of


class Desk:
    """A run, and the deeds that were taken back and can be done again."""

    def __init__(self, floor):
        self.floor = floor
        # The last one taken back stands last.
        self._undone = []
        self._come("", 0)

    def __len__(self):
        return len(self._run)

    @property
    def done(self):
        """The run."""
        return self._run

    @property
    def stand(self):
        """The stand to which the run comes."""
        return self._stand

    @property
    def is_day(self):
        """Whether the run is a day."""
        return self._is_day

    def _come(self, run, stand):
        """Comes to a stand along a run."""
        self._run = run
        self._stand = stand
        self._is_day = self.floor.is_end(stand)

    def do(self, deed):
        """Does a deed."""
        behind = self.floor.step(self._stand, deed) if isinstance(deed, str) else None
        if behind is None:
            raise CannotDo(deed)
        self._come(self._run + deed, behind)
        self._undone = []

    def undo(self):
        """Takes the last deed back."""
        if self._run == "":
            raise NothingToUndo()
        self._undone.append(self._run[-1])
        run = self._run[:-1]
        self._come(run, self.floor.stand_of(run))

    def redo(self):
        """Does the deed again that was taken back last."""
        if self._undone == []:
            raise NothingToRedo()
        deed = self._undone.pop()
        self._come(self._run + deed, self.floor.step(self._stand, deed))

    def tape(self, tape):
        """The writing of a tape behind the run."""
        check_tape(self.floor, tape)
        return writing_of(self.floor, tape, self._run)

    def sure(self, row, question):
        """What some unlike tapes surely tell of a question behind the run: True, False or None."""
        check_row(self.floor, row)
        check_question(self.floor, question)
        return surely_told(self.floor, row, question, self._run)
