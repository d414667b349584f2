"""Places where another thing would be meant than now [54].

What would be meant is asked of names as they would stand: a list, rising, of (place, part, word, number): the place
as it stands, the part and the word as they would be then, and the function's or record's number that has to be meant.
"""

from turnsame.meanings import meant_number


def name_place(read, thing):
    """The place of a function's or record's name in its form."""
    part, first, count = read.form_of(thing)
    return part, first + 2


def word_at(read, place):
    part, at = place
    return read.words(part)[at]


def tables_of(read, sort):
    """For each part a dict of the names of its functions (records), and their numbers."""
    tables = read.walk.tables
    return [dict(table) for table in (tables.function_tables if sort == "function" else tables.record_tables)]


def uses_of(read, sort):
    """All places that mean a function (record), but where it is told: a list, rising, of (place, number)."""
    uses = [(place, thing[1]) for place, thing in read.all_places() if thing[0] == sort]
    return [(place, number) for place, number in uses if place != name_place(read, (sort, number))]


def shaded_uses(tables, asked):
    """The places at which another function (record) would be meant, by its tables as they would be then."""
    return [place for place, part, word, number in asked if meant_number(tables, part, word) != number]


def innermost(scope, word):
    """The id of the innermost binder of the word in the scope, a list of (name, id); or None."""
    for name, number in scope[::-1]:
        if name == word:
            return number
    return None
