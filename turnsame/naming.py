"""Pieces named, and names spread [66] to [68]."""

from turnsame.asking import Asked
from turnsame.atplace import can_spread, first_path, ids_of, now_path
from turnsame.cores import at_path, bound_by, put_at
from turnsame.fitting import ahead_of, behind, in_place, taken
from turnsame.places import is_within, outer_locals, refuse_least, sets_among
from turnsame.shades import innermost, word_at
from turnsame.words import is_name


def around(asked):
    """The expression right around the piece."""
    function = asked.read.core()[0][asked.function]
    return at_path(function[2], asked.path[:-1])


def refuse_bound(asked):
    """Refuses where the piece means a local that the expression right around it binds."""
    bound = bound_by(around(asked))
    meant = outer_locals(asked.read, asked.span(asked.path))
    refuse_least("used", [place for place, thing in meant if thing[2] in bound])


def binds_name(asked, name):
    """True where the expression right around the piece binds a local of this name around it."""
    bound = bound_by(around(asked))
    return any([word == name and number in bound for word, number in asked.read.names_at(asked.function, asked.path)])


def refuse_named_shade(asked, name):
    """Refuses where another local of this name stands in the way of the new one."""
    read, piece = asked.read, asked.span(asked.path)
    outer = [place for place, thing in outer_locals(read, asked.span(asked.path[:-1])) if not is_within(piece, place)]
    shaded = [place for place in outer if word_at(read, place) == name]
    if binds_name(asked, name):
        shaded.append((asked.part, asked.at))
    refuse_least("shade", shaded)


def stands_first(asked):
    """True where a name in the piece's place would stand at the first place of the expression right around it."""
    # An id that the function has not.
    x = ids_of(asked.read.core()[0][asked.function])
    return first_path(asked.ground(), put_at(around(asked), asked.path[-1:], ("name", x)), x) is not None


def refuse_stirring(asked):
    """Refuses where the piece may not be reckoned ahead of the expression right around it."""
    ground = asked.ground()
    if stands_first(asked):
        return
    if not ground.idle(asked.e):
        asked.refuse("deed")
    refuse_least("set", sets_among(asked.read, asked.span(asked.path[:-1]), ground.read_in(asked.e)))


def named_body(asked, name):
    """The turning that names a piece that is a form's body."""
    text = f"(let {name} {asked.signs(())} {name})"
    return asked.turning([in_place(asked.rows, asked.span(()), text)], (), (("now", asked.function, ()),))


def named(program, part, at, name):
    """The turning that names the piece."""
    asked = Asked(program, part, at)
    if asked.e is None or not is_name(name):
        asked.refuse("name")
    if asked.path == ():
        return named_body(asked, name)
    refuse_bound(asked)
    refuse_named_shade(asked, name)
    refuse_stirring(asked)
    outer = asked.span(asked.path[:-1])
    wishes = [
        ahead_of(part, outer[1], f" (let {name} {asked.signs(asked.path)}"),
        in_place(asked.rows, asked.span(asked.path), name),
        ahead_of(part, behind(outer), ")"),
    ]
    word = "now" if stands_first(asked) else "spread"
    return asked.turning(wishes, (), ((word, asked.function, asked.path[:-1]),))


def would_shade(read, place, x, meant):
    """True where one of the locals meant, pairs (name, id), would be another one at a place of the let's name x."""
    function, path = read.node_at(place[0], place[1])
    # The let itself is gone then.
    scope = [(name, number) for name, number in read.names_at(function, path) if number != x]
    return any([innermost(scope, name) != number for name, number in meant])


def refuse_spread_shade(asked, places):
    read = asked.read
    locals_meant = outer_locals(read, asked.span(asked.path + (0,)))
    meant = sorted({(word_at(read, place), thing[2]) for place, thing in locals_meant})
    refuse_least("shade", [place for place in places if would_shade(read, place, asked.e[1], meant)])


def spread_word(asked):
    """The rule by which the let's name is spread."""
    word, x, thing, body = asked.e
    ground = asked.ground()
    if can_spread(ground, x, thing, body):
        return "spread"
    if now_path(ground, x, body) is None:
        if ground.idle(thing):
            refuse_least("set", sets_among(asked.read, asked.span(asked.path + (1,)), ground.read_in(thing)))
        refuse_least("deed", [asked.span(asked.path + (0,))[:2]])
    return "now"


def spread(program, part, at):
    """The turning that lays a let's thing wherever its name stands, in the place of the let its body."""
    asked = Asked(program, part, at)
    if not asked.is_word("let"):
        asked.refuse("name")
    # A local's first place is where it is bound.
    places = asked.read.places_of(("local", asked.function, asked.e[1]))[1:]
    refuse_spread_shade(asked, places)
    word = spread_word(asked)
    thing = asked.path + (0,)
    signs = asked.signs(thing)
    wishes = [taken((part, at, behind(asked.span(thing)) - at)), taken((part, behind(asked.span(asked.path)) - 1, 1))]
    wishes.extend([in_place(asked.rows, place + (1,), signs) for place in places])
    return asked.turning(wishes, ((word, asked.function, asked.path),), ())
