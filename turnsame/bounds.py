"""Turnings whose edited program would be beyond the bounds [9]."""

from turnsame.checking import checked
from turnsame.edits import edited
from turnsame.errors import NoPaper, NoProgram, NoTurn
from turnsame.reading import Read, rows_of, written_parts

MOST_SIGNS = 20000


def is_written(program):
    """True where the program is as told by forms and bounds; what its names mean is no matter here."""
    try:
        written_parts(rows_of(program))
    except NoProgram:
        return False
    return True


def is_bounded(program):
    return all([len(text) <= MOST_SIGNS for name, text in program]) and is_written(program)


def is_let_by(program, told, paper):
    try:
        checked(Read(program).core(), Read(told).core(), paper)
    except NoPaper:
        return False
    return True


def bounded_turning(program, part, at, edits, paper):
    """The turning asked at a place, whose edits write forms; refused where there would be too many of anything."""
    told = edited(program, edits)
    if not is_bounded(told):
        raise NoTurn("many", part, at)
    # Cores have bounds of their own, which a step may break where the programs keep to theirs.
    if (paper[0] or paper[1]) and not is_let_by(program, told, paper):
        raise NoTurn("many", part, at)
    return edits, paper
