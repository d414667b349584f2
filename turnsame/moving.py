"""Functions and records moved to another part [55]."""

from turnsame.bounds import bounded_turning
from turnsame.errors import NoTurn
from turnsame.places import is_told_at, is_within, refuse_least
from turnsame.reading import Read
from turnsame.shades import name_place, shaded_uses, tables_of, uses_of, word_at
from turnsame.tokens import text_of, tokens_of


def tables_then(read, sort, thing, other):
    """The tables of a sort when the thing is moved to the other part."""
    tables = tables_of(read, sort)
    if thing[0] == sort:
        part, at = name_place(read, thing)
        name = word_at(read, (part, at))
        del tables[part][name]
        tables[other][name] = thing[1]
    return tables


def shaded_by_move(read, thing, other):
    """The places, as they stand, at which another thing would be meant, were the thing moved to the other part."""
    span = read.form_of(thing)
    shaded = []
    for sort in ("function", "record"):
        asked = []
        for place, number in uses_of(read, sort):
            part = other if is_within(span, place) else place[0]
            asked.append((place, part, word_at(read, place), number))
        shaded.extend(shaded_uses(tables_then(read, sort, thing, other), asked))
    return shaded


def refuse_moved(read, thing, other):
    """Refuses with what stands against the thing's move to the other part."""
    name = word_at(read, name_place(read, thing))
    number = tables_of(read, thing[0])[other].get(name)
    if number is not None:
        part, at = name_place(read, (thing[0], number))
        raise NoTurn("used", part, at)
    refuse_least("shade", shaded_by_move(read, thing, other))


def move_edits(program, span, other):
    """Edits that take the tokens of the span, and lay them behind the last one of the other part."""
    part, first, count = span
    pieces = tokens_of(program[part][1])[0][first:first + count]
    many = len(tokens_of(program[other][1])[0])
    return sorted([(part, first, count, ""), (other, many, 0, text_of(pieces, ""))])


def numbers_then(read, sort, thing, other):
    """The numbers of all functions (records), in the order in which they stand when the thing is moved."""
    told = []
    for part, table in enumerate(tables_of(read, sort)):
        told.extend(sorted([number for number in table.values() if (sort, number) != thing]))
        if part == other and sort == thing[0]:
            told.append(thing[1])
    return tuple(told)


def moved(program, part, at, other):
    """The turning that moves the function or record, told at the place, to the other part."""
    read = Read(program)
    thing = read.thing_at(part, at)
    if not is_told_at(read, thing, (part, at)):
        raise NoTurn("name", part, at)
    if not 0 <= other < len(program) or other == part:
        raise NoTurn("part", part, at)
    refuse_moved(read, thing, other)
    functions = numbers_then(read, "function", thing, other)
    records = numbers_then(read, "record", thing, other)
    edits = move_edits(program, read.form_of(thing), other)
    return bounded_turning(program, part, at, edits, ((), (), functions, records, ()))
