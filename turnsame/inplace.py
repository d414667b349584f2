"""Calls put in place [63]."""

from turnsame.asking import Asked
from turnsame.fitting import in_place, signs_of
from turnsame.meanings import meant_number
from turnsame.params import param_place
from turnsame.places import outer_locals, refuse_least, told_in
from turnsame.shades import tables_of, word_at


def param_names(read, function):
    """The names of a function's params."""
    return [word_at(read, param_place(read, function, k)) for k in range(read.core()[0][function][1])]


def shaded_things(asked, names):
    """The places of locals in the call's things that a let ahead of the thing would bind."""
    shaded = []
    for number in range(len(names)):
        for place, thing in outer_locals(asked.read, asked.span(asked.path + (number,))):
            if word_at(asked.read, place) in names[:number]:
                shaded.append(place)
    return shaded


def shaded_body(read, span, part):
    """The places of functions and records in the body, a span, that would mean another one in the part."""
    shaded = []
    for sort in ("function", "record"):
        tables = tables_of(read, sort)
        for place, thing in told_in(read, span):
            if thing[0] == sort and meant_number(tables, part, word_at(read, place)) != thing[1]:
                shaded.append(place)
    return shaded


def put_in_place(program, part, at):
    """The turning that lays the body of a function in the place of a call of it."""
    asked = Asked(program, part, at)
    if not asked.is_word("call"):
        asked.refuse("name")
    read, called = asked.read, asked.e[1]
    if read.core()[0][called][0] == "deep":
        asked.refuse("deep")
    names = param_names(read, called)
    body = read.span_of(called, ())
    refuse_least("shade", shaded_things(asked, names) + shaded_body(read, body, part))
    text = signs_of(asked.rows, body)
    for number in reversed(range(len(names))):
        text = f"(let {names[number]} {asked.signs(asked.path + (number,))} {text})"
    wishes = [in_place(asked.rows, asked.span(asked.path), text)]
    return asked.turning(wishes, (("unfold", asked.function, asked.path),), ())
