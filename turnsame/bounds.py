"""Turnings whose edited program would be beyond the bounds [9]."""

from turnsame.edits import edited
from turnsame.errors import NoProgram, NoTurn
from turnsame.reading import rows_of, written_parts

MOST_SIGNS = 20000


def is_written(program):
    """True where the program is as told by forms and bounds; what its names mean is no matter here."""
    try:
        written_parts(rows_of(program))
    except NoProgram:
        return False
    return True


def is_bounded(program):
    return all([len(text) <= MOST_SIGNS for name, text in program]) and is_written(program)


def bounded_turning(program, part, at, edits, paper):
    """The turning asked at a place, whose edits write forms; refused where there would be too many of anything."""
    if not is_bounded(edited(program, edits)):
        raise NoTurn("many", part, at)
    return edits, paper
