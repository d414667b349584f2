"""What an expression reads, sets and stirs [32], [33]."""

from turnsame.cores import at_path, bound_by, children_of, walked

STIRRING = ("say", "fault", "while", "apply", "get")
STIRRING_OPS = ("div", "at")


def vars_of(body):
    """The ids of a body's vars, as a dict's keys."""
    return {node[1]: True for node in walked(body) if node[0] == "var"}


def outer_vars(body, path, word):
    """The vars bound outside of the expression at the path that its names (or its sets) mean: rising, each once."""
    variables = vars_of(body)
    met = walked(at_path(body, path))
    # Ids are canonical, so what is bound anywhere within the expression is bound nowhere outside of it.
    own = {number: True for node in met for number in bound_by(node)}
    meant = [node[1] for node in met if node[0] == word]
    return sorted({number for number in meant if number in variables and number not in own})


def stirs(e, restless):
    """True where the expression itself, but for what is within it, is not idle; restless has the functions so."""
    if e[0] == "op":
        return e[1] in STIRRING_OPS
    if e[0] == "call":
        return e[1] in restless
    return e[0] in STIRRING


def is_still(e, restless):
    """True where neither the expression nor anything within it, but within funs, stirs."""
    waiting = [e]
    while waiting:
        node = waiting.pop()
        if stirs(node, restless):
            return False
        if node[0] != "fun":
            waiting.extend(children_of(node))
    return True


def restless_functions(functions):
    """The functions of which a call is not idle, as a dict's keys: deep ones, and those whose body is not idle."""
    restless = {number: True for number, function in enumerate(functions) if function[0] == "deep"}
    before = -1
    # A function may be restless by those behind it in number, so all are looked at until none comes to it.
    while before < len(restless):
        before = len(restless)
        for number, (head, count, body) in enumerate(functions):
            if number not in restless and not is_still(body, restless):
                restless[number] = True
    return restless


def reads(core, function, path):
    """The vars bound outside of the expression that it reads."""
    return outer_vars(core[0][function][2], path, "name")


def sets(core, function, path):
    """The vars bound outside of the expression that it sets."""
    return outer_vars(core[0][function][2], path, "set")


def is_quiet(core, function, path):
    """True where the expression is idle but perhaps for its sets of outer vars."""
    return is_still(at_path(core[0][function][2], path), restless_functions(core[0]))


def is_idle(core, function, path):
    return is_quiet(core, function, path) and not sets(core, function, path)


def is_calm(core, function, path):
    return is_idle(core, function, path) and not reads(core, function, path)


def sets_none_of(core, function, path, other):
    """True where the expression at the path sets no var that the other one reads or sets."""
    met = reads(core, function, other) + sets(core, function, other)
    return not [number for number in sets(core, function, path) if number in met]


def are_apart(core, function, path, other):
    """True where neither meddles with the other's vars, and one of both at least is quiet."""
    if not sets_none_of(core, function, path, other) or not sets_none_of(core, function, other, path):
        return False
    return is_quiet(core, function, path) or is_quiet(core, function, other)
