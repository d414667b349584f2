"""The rules at an expression [35]: each tells what comes in the expression's place, or None where it is not right."""

from turnsame.calm import ground_of
from turnsame.cores import bound_by, children_of, put_at, rewritten, turned_ids, walked

# Where an expression has a first place [36], it is in its first child; of these also in the ones behind calm ones.
IN_ORDER = ("op", "new", "call", "apply")
FIRST_ALONE = ("do", "if", "let", "var", "each", "set", "say", "get")


def ids_of(function):
    """How many ids a function has: being canonical, they are all numbers below that."""
    head, count, body = function
    return count + sum([len(bound_by(node)) for node in walked(body)])


def unfold(core, step, e):
    functions = core[0]
    if e[0] != "call" or functions[e[1]][0] != "function":
        return None
    called = functions[e[1]]
    fresh = ids_of(functions[step[1]])
    told = turned_ids(called[2], {number: fresh + number for number in range(ids_of(called))})
    for number in reversed(range(called[1])):
        told = ("let", fresh + number, e[2][number], told)
    return told


def stands_in(e, x):
    return ("name", x) in walked(e)


def stands_in_fun(e, x):
    return any([stands_in(node, x) for node in walked(e) if node[0] == "fun"])


def can_spread(ground, x, thing, body):
    if ground.calm(thing):
        return True
    if not ground.idle(thing) or stands_in_fun(body, x):
        return False
    laid = ground.set_in(body)
    return not [number for number in ground.read_in(thing) if number in laid]


def laid_for(e, what):
    """What is laid for an expression: a thing, where it is the name x."""
    x, thing = what
    return thing if e == ("name", x) else e


def spread(core, step, e):
    if e[0] != "let":
        return None
    word, x, thing, body = e
    if not can_spread(ground_of(core, step[1]), x, thing, body):
        return None
    return rewritten(body, laid_for, (x, thing))


def first_child(ground, e, x):
    """The number of the child in which x stands, where that child's first places are the expression's; or None."""
    if e[0] not in IN_ORDER and e[0] not in FIRST_ALONE:
        return None
    for number, child in enumerate(children_of(e)):
        if stands_in(child, x):
            return number
        if e[0] in FIRST_ALONE or not ground.calm(child):
            return None
    return None


def first_path(ground, e, x):
    """The path to x in the expression, where it stands at its first place; or None."""
    path = ()
    while e != ("name", x):
        number = first_child(ground, e, x)
        if number is None:
            return None
        path += (number,)
        e = children_of(e)[number]
    return path


def now_path(ground, x, body):
    """The path to x in the body, where it stands there just once, at its first place; or None."""
    return first_path(ground, body, x) if walked(body).count(("name", x)) == 1 else None


def now(core, step, e):
    if e[0] != "let":
        return None
    word, x, thing, body = e
    path = now_path(ground_of(core, step[1]), x, body)
    return None if path is None else put_at(body, path, thing)


def flip(core, step, e):
    if e[0] != "if" or e[1][:2] != ("op", "not"):
        return None
    word, test, one, other = e
    return "if", test[2][0], other, one


def flat(core, step, e):
    if e[0] != "do":
        return None
    things = []
    for thing in e[1]:
        things.extend(thing[1] if thing[0] == "do" else (thing,))
    if len(e[1]) > 1 and not any([thing[0] == "do" for thing in e[1]]):
        return None
    return things[0] if len(things) == 1 else ("do", tuple(things))


def drop(core, step, e):
    k = step[3]
    if e[0] != "do" or k >= len(e[1]) - 1 or not ground_of(core, step[1]).idle(e[1][k]):
        return None
    return "do", e[1][:k] + e[1][k + 1:]


def swap(core, step, e):
    k = step[3]
    if e[0] != "do" or k + 1 >= len(e[1]) - 1:
        return None
    es = e[1]
    if not ground_of(core, step[1]).apart(es[k], es[k + 1]):
        return None
    return "do", es[:k] + (es[k + 1], es[k]) + es[k + 2:]


def can_part(ground, thing, body, one, other):
    """True where an each of the thing may go over the one do and then over the other one, which the body has."""
    laid = ground.set_in(body)
    if not ground.idle(thing) or [number for number in ground.read_in(thing) if number in laid]:
        return False
    return ground.apart(one, other)


def part(core, step, e):
    k = step[3]
    if e[0] != "each" or e[3][0] != "do" or not 0 < k < len(e[3][1]):
        return None
    word, x, thing, body = e
    one = ("do", body[1][:k])
    other = ("do", body[1][k:])
    if not can_part(ground_of(core, step[1]), thing, body, one, other):
        return None
    return "do", (("each", x, thing, one), ("each", x, thing, other))


AT_PLACE = {
    "unfold": unfold,
    "spread": spread,
    "now": now,
    "flip": flip,
    "flat": flat,
    "drop": drop,
    "swap": swap,
    "part": part,
}
