"""Places in a read program, and refusals that tell the least of them [53]."""

from turnsame.cores import at_path
from turnsame.errors import NoTurn
from turnsame.shades import name_place, word_at


def refuse_least(word, places):
    """Refuses with the word at the least of the places, where there are some."""
    if places:
        part, at = min(places)
        raise NoTurn(word, part, at)


def is_told_at(read, thing, place):
    """True where the thing is a function or a record whose name in its form stands at the place."""
    return thing is not None and thing[0] in ("function", "record") and name_place(read, thing) == place


def is_within(span, place):
    part, first, count = span
    return place[0] == part and first <= place[1] < first + count


def told_in(read, span):
    """All places within the span that tell a thing, rising, each with its thing."""
    return [(place, thing) for place, thing in read.all_places() if is_within(span, place)]


def outer_locals(read, span):
    """All places within the span that mean a local bound outside of it, rising, each with its thing."""
    told = [(place, thing) for place, thing in told_in(read, span) if thing[0] == "local"]
    # A local's first place is where it is bound.
    return [(place, thing) for place, thing in told if not is_within(span, read.places_of(thing)[0])]


def is_set(read, place):
    """True where the place, one that tells a local, is that of a set's NAME."""
    part, at = place
    return word_at(read, (part, at - 1)) == "set"


def outer_sets(read, span):
    """The places of all sets within the span of vars bound outside of it, rising, each with the var's id."""
    return [(place, thing[2]) for place, thing in outer_locals(read, span) if is_set(read, place)]


def sets_among(read, span, ids):
    """The places of the sets within the span of vars bound outside of it that are among these."""
    return [place for place, number in outer_sets(read, span) if number in ids]


def nodes_of(read, word, number):
    """All expressions of the word that tell the number, by their first tokens, rising: (function, path, expression)."""
    functions = read.core()[0]
    met = [(function, path, at_path(functions[function][2], path)) for place, (function, path) in read.all_nodes()]
    return [(function, path, e) for function, path, e in met if e[0] == word and e[1] == number]
