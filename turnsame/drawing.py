"""Pieces drawn out into functions [61], [62]."""

from turnsame.asking import Asked
from turnsame.fitting import ahead_of, behind, in_place
from turnsame.places import outer_locals, outer_sets, refuse_least
from turnsame.shades import name_place, shaded_uses, tables_of, uses_of, word_at
from turnsame.words import is_name


def refuse_used(read, part, name):
    number = tables_of(read, "function")[part].get(name)
    if number is not None:
        refuse_least("used", [name_place(read, ("function", number))])


def shaded_by_new(read, part, name):
    """The places of calls that would mean a new function of this name in the part."""
    tables = tables_of(read, "function")
    tables[part][name] = len(read.core()[0])
    uses = uses_of(read, "function")
    return shaded_uses(tables, [(place, place[0], word_at(read, place), number) for place, number in uses])


def names_drawn(read, span):
    """The names of the locals bound outside of the span that are meant in it, each once, by their first places."""
    names = {}
    for place, thing in outer_locals(read, span):
        names[word_at(read, place)] = True
    return list(names)


def drawn(program, part, at, name):
    """The turning that draws the piece out into a function of this name."""
    asked = Asked(program, part, at)
    if asked.e is None or not is_name(name):
        asked.refuse("name")
    read, span = asked.read, asked.span(asked.path)
    refuse_used(read, part, name)
    refuse_least("shade", shaded_by_new(read, part, name))
    refuse_least("set", [place for place, number in outer_sets(read, span)])
    names = names_drawn(read, span)
    params = " ".join(names)
    call = " ".join([name] + names)
    form = read.form_of(("function", asked.function))
    made = f"(function {name} ({params}) {asked.signs(asked.path)})"
    wishes = [in_place(asked.rows, span, f"({call})"), ahead_of(part, behind(form), "\n" + made)]
    step = (asked.function, asked.path)
    back = (("unfold",) + step,) + (("spread",) + step,) * len(names) + (("lose", asked.function + 1),)
    return asked.turning(wishes, (), back)
