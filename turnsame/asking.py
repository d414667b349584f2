"""Turnings asked for at an expression: the one that begins at the token asked [60]."""

from turnsame.bounds import bounded_turning
from turnsame.calm import ground_of
from turnsame.cores import at_path
from turnsame.errors import NoTurn
from turnsame.fitting import fitted_edits, signs_of, token_rows
from turnsame.papers import plain_paper
from turnsame.reading import Read


class Asked:
    """A place asked for in a program, and the expression that begins there: its function, its path and itself.

    Where none begins there, the function and the expression are None.
    """

    def __init__(self, program, part, at):
        self.whole = program
        self.read = Read(program)
        self.rows = token_rows(program)
        self.part = part
        self.at = at
        self.function = None
        self.path = ()
        self.e = None
        node = self.read.node_at(part, at)
        if node is not None:
            self.function, self.path = node
            self.e = at_path(self.read.core()[0][self.function][2], self.path)

    def is_word(self, word):
        """True where an expression of this word is there."""
        return self.e is not None and self.e[0] == word

    def ground(self):
        return ground_of(self.read.core(), self.function)

    def span(self, path):
        """The span of an expression of the same function."""
        return self.read.span_of(self.function, path)

    def signs(self, path):
        """The signs of an expression of the same function."""
        return signs_of(self.rows, self.span(path))

    def refuse(self, word):
        """Refuses with the word at the place asked."""
        raise NoTurn(word, self.part, self.at)

    def turning(self, wishes, there, back):
        """The turning that these wishes and steps make."""
        edits = fitted_edits(self.rows, wishes)
        paper = plain_paper(self.read.core(), there, back, ())
        return bounded_turning(self.whole, self.part, self.at, edits, paper)
