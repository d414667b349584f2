"""Benches: a program, the turnings done on it, and those taken back [77]."""

from turnsame.errors import NoMore
from turnsame.turnings import Turn


class Bench:
    """A program with two rows of turnings: those done, and those taken back, the last one taken back at the end."""

    def __init__(self, program):
        self.first = program
        self.ended = []
        self.gone = []

    def program(self):
        """The program as it is now."""
        return self.ended[-1].behind if self.ended else self.first

    def turn(self, request):
        """Turns the program; what was taken back is gone then."""
        self.ended.append(Turn(self.program(), request))
        self.gone = []

    def undo(self):
        """Takes the last turning done back."""
        self.gone.append(self.last_turn())
        self.ended.pop()

    def redo(self):
        """Does the turning last taken back once more."""
        if not self.gone:
            raise NoMore("nothing was taken back")
        self.ended.append(self.gone.pop())

    def last_turn(self):
        """The last turning done."""
        if not self.ended:
            raise NoMore("nothing was done")
        return self.ended[-1]

    def requests(self):
        """The requests done, in order."""
        return [turn.request for turn in self.ended]

    def papers(self):
        """The papers of the turnings done, in order."""
        return [turn.paper for turn in self.ended]
