"""Things that get another name [54]."""

from turnsame.bounds import bounded_turning
from turnsame.cores import bound_by, walked
from turnsame.errors import NoTurn
from turnsame.fitting import token_rows
from turnsame.papers import plain_paper
from turnsame.places import is_set, refuse_least
from turnsame.reading import Read
from turnsame.shades import innermost, name_place, shaded_uses, tables_of, uses_of, word_at
from turnsame.words import is_name


def is_open(read, thing):
    return thing[0] == "function" and read.core()[0][thing[1]][0] == "open"


def told_beside(read, thing):
    """The functions or records that may not have the name of this one."""
    part = read.form_of(thing)[0]
    beside = [(thing[0], number) for number in tables_of(read, thing[0])[part].values()]
    if is_open(read, thing):
        beside.extend([("function", number) for name, number in read.core()[2]])
    return beside


def bound_beside(read, thing):
    """The ids that are bound together with the local: params of the form, names of the fun, or it alone."""
    function, number = thing[1], thing[2]
    head, count, body = read.core()[0][function]
    if number < count:
        return tuple(range(count))
    return [bound_by(node) for node in walked(body) if number in bound_by(node)][0]


def places_beside(read, thing):
    """Where the things are told that may not have the name of this one."""
    if thing[0] == "local":
        # A local's first place is where it is bound.
        return [read.places_of(("local", thing[1], number))[0] for number in bound_beside(read, thing)]
    if thing[0] == "field":
        part, first, count = read.form_of(("record", thing[1]))
        return [(part, first + 3 + number) for number in range(read.core()[1][thing[1]])]
    return [name_place(read, other) for other in told_beside(read, thing)]


def refuse_used(read, thing, name):
    used = [place for place in places_beside(read, thing) if word_at(read, place) == name]
    refuse_least("used", used)


def scope_at(read, place):
    """The names seen by a token that means a local; None where the token binds it."""
    part, at = place
    node = read.node_at(part, at - 2) if is_set(read, place) else read.node_at(part, at)
    return None if node is None else read.names_at(node[0], node[1])


def shaded_locals(read, thing, name):
    """The places at which another local would be meant, were the local called so."""
    shaded = []
    for place, other in read.all_places():
        if other[:2] == thing[:2]:
            scope = scope_at(read, place)
            word = name if other == thing else word_at(read, place)
            if scope is not None:
                then = [(name if number == thing[2] else former, number) for former, number in scope]
                if innermost(then, word) != other[2]:
                    shaded.append(place)
    return shaded


def shaded_calls(read, thing, name):
    """The places at which another function (record) would be meant, were the function (record) called so."""
    sort, renamed_number = thing
    tables = tables_of(read, sort)
    part, at = name_place(read, thing)
    del tables[part][word_at(read, (part, at))]
    tables[part][name] = renamed_number
    asked = []
    for place, number in uses_of(read, sort):
        word = name if number == renamed_number else word_at(read, place)
        asked.append((place, place[0], word, number))
    return shaded_uses(tables, asked)


def refuse_shade(read, thing, name):
    # A field's name is asked of its record alone, so it is meant where it was.
    shaded = []
    if thing[0] == "local":
        shaded = shaded_locals(read, thing, name)
    elif thing[0] != "field":
        shaded = shaded_calls(read, thing, name)
    refuse_least("shade", shaded)


def name_edits(program, places, name):
    """Edits that lay the name at each of the places, each with its gap as it was."""
    rows = token_rows(program)
    return [(part, at, 1, rows[part][at][0] + name) for part, at in places]


def renamed(program, part, at, name):
    """The turning that gives the thing at the place another name."""
    read = Read(program)
    thing = read.thing_at(part, at)
    if thing is None or not is_name(name):
        raise NoTurn("name", part, at)
    former = word_at(read, (part, at))
    if former == name:
        return [], plain_paper(read.core(), (), (), ())
    refuse_used(read, thing, name)
    refuse_shade(read, thing, name)
    opens = ((name, former),) if is_open(read, thing) else ()
    edits = name_edits(program, read.places_of(thing), name)
    return bounded_turning(program, part, at, edits, plain_paper(read.core(), (), (), opens))
