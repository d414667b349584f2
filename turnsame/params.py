"""Params put into functions, and taken out of them [56], [57]."""

from turnsame.bounds import bounded_turning
from turnsame.calm import all_grounds
from turnsame.errors import NoTurn
from turnsame.fitting import ahead_of, fitted_edits, taken, token_rows
from turnsame.forms import MOST_PARAMS
from turnsame.papers import plain_paper
from turnsame.places import is_told_at, is_within, nodes_of, refuse_least
from turnsame.reading import Read
from turnsame.shades import name_place, word_at
from turnsame.words import in_bounds, is_name

# The tokens of a function's form ahead of its first param.
AHEAD_OF_PARAMS = 4


def head_of(read, function):
    return read.core()[0][function][0]


def count_of(read, function):
    return read.core()[0][function][1]


def param_place(read, function, k):
    """Where param k stands in the function's form; that of the ) behind all of them, where k is their count."""
    part, first, count = read.form_of(("function", function))
    return part, first + AHEAD_OF_PARAMS + k


def refuse_open(read, function):
    if head_of(read, function) == "open":
        refuse_least("open", [name_place(read, ("function", function))])


def can_put(read, thing, place, k, name, number):
    """True where what is asked is of its kind."""
    if not is_told_at(read, thing, place) or thing[0] != "function" or not is_name(name):
        return False
    return in_bounds(number) and 0 <= k <= count_of(read, thing[1])


def refuse_put(read, function, name):
    many = count_of(read, function)
    places = [param_place(read, function, k) for k in range(many)]
    used = [place for place in places if word_at(read, place) == name]
    if many == MOST_PARAMS:
        used.append(name_place(read, ("function", function)))
    refuse_least("used", used)


def thing_place(read, function, path, k, many):
    """Where thing k of a call begins; where its ) stands, if it has just so many."""
    if k < many:
        return read.span_of(function, path + (k,))[:2]
    part, first, count = read.span_of(function, path)
    return part, first + count - 1


def put_wishes(read, called, k, name, number):
    part, at = param_place(read, called, k)
    wishes = [ahead_of(part, at, name)]
    for function, path, call in nodes_of(read, "call", called):
        part, at = thing_place(read, function, path, k, len(call[2]))
        wishes.append(ahead_of(part, at, str(number)))
    return wishes


def put_param(program, part, at, k, name, number):
    """The turning that puts a param as number k into the function told at the place; calls hand in the number."""
    read = Read(program)
    thing = read.thing_at(part, at)
    if not can_put(read, thing, (part, at), k, name, number):
        raise NoTurn("name", part, at)
    function = thing[1]
    refuse_open(read, function)
    refuse_put(read, function, name)
    edits = fitted_edits(token_rows(program), put_wishes(read, function, k, name, number))
    paper = plain_paper(read.core(), (), (("param", function, k),), ())
    return bounded_turning(program, part, at, edits, paper)


def is_param_at(read, thing, place):
    """True where the thing is a function's param, told at the place in its form."""
    if thing is None or thing[0] != "local" or thing[2] >= count_of(read, thing[1]):
        return False
    return param_place(read, thing[1], thing[2]) == place


def refuse_take(read, called, k):
    refuse_open(read, called)
    refuse_least("used", read.places_of(("local", called, k))[1:])
    grounds = all_grounds(read.core())
    restless = []
    for function, path, call in nodes_of(read, "call", called):
        if not grounds[function].idle(call[2][k]):
            restless.append(read.span_of(function, path + (k,))[:2])
    refuse_least("deed", restless)


def outermost(spans):
    """Those of the spans, which rise by their first tokens, that lie within no other one."""
    told = []
    for span in spans:
        if not told or not is_within(told[-1], span[:2]):
            told.append(span)
    return told


def take_param(program, part, at):
    """The turning that takes the param told at the place out of its function."""
    read = Read(program)
    thing = read.thing_at(part, at)
    if not is_param_at(read, thing, (part, at)):
        raise NoTurn("name", part, at)
    called, k = thing[1], thing[2]
    refuse_take(read, called, k)
    # A call within a thing that goes goes with it.
    spans = [read.span_of(function, path + (k,)) for function, path, call in nodes_of(read, "call", called)]
    wishes = [taken((part, at, 1))] + [taken(span) for span in outermost(sorted(spans))]
    edits = fitted_edits(token_rows(program), wishes)
    paper = plain_paper(read.core(), (("param", called, k),), (), ())
    return bounded_turning(program, part, at, edits, paper)
