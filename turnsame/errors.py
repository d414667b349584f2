"""The refusals: each one a class of its own under TurnError, none under another."""


class TurnError(ValueError):
    """Any refusal."""


class NoTree(TurnError):
    """Brackets that do not pair."""

    def __init__(self, at):
        TurnError.__init__(self, f"the brackets do not pair at word {at}")
        self.at = at


class NoProgram(TurnError):
    """A program that can not be read."""

    def __init__(self, part, at):
        TurnError.__init__(self, f"no program: part {part}, token {at}")
        self.part = part
        self.at = at


class NoPaper(TurnError):
    """A paper that is not let by."""

    def __init__(self, side, number):
        TurnError.__init__(self, f"no paper: side {side}, number {number}")
        self.side = side
        self.number = number


class NoEdit(TurnError):
    """Edits that a program does not let."""

    def __init__(self, number):
        TurnError.__init__(self, f"no edit: number {number}")
        self.number = number


class NoTurn(TurnError):
    """A turning that something stands against."""

    def __init__(self, word, part, at):
        TurnError.__init__(self, f"no turning: {word}, part {part}, token {at}")
        self.word = word
        self.part = part
        self.at = at


class Clash(TurnError):
    """Two hands whose turnings do not meet."""

    def __init__(self, one, other):
        TurnError.__init__(self, f"the turnings at {one} and at {other} clash")
        self.one = one
        self.other = other


class NoLines(TurnError):
    """Lines that write no paper."""

    def __init__(self, row):
        TurnError.__init__(self, f"no paper's line: {row}")
        self.row = row


class NoOpen(TurnError):
    """A run of what is no open function, or with another count of values."""


class NoStep(TurnError):
    """What is no step, or one that is not right."""


class NoRequest(TurnError):
    """What is no request."""


class NoMore(TurnError):
    """Nothing left to take back, or to do once more."""


class NoRow(TurnError):
    """A row that no desk answers."""
