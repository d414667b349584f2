"""What an expression reads, sets and stirs [32], [33]."""

from turnsame.cores import at_path, bound_by, children_of, walked

STIRRING = ("say", "fault", "while", "apply", "get")
STIRRING_OPS = ("div", "at")


def vars_of(body):
    """The ids of a body's vars, as a dict's keys."""
    return {node[1]: True for node in walked(body) if node[0] == "var"}


def outer_vars(e, variables, word):
    """Those of the vars, bound outside of the expression, that its names (or its sets) mean: rising, each once."""
    met = walked(e)
    # Ids are canonical, so what is bound anywhere within the expression is bound nowhere outside of it.
    own = {number: True for node in met for number in bound_by(node)}
    meant = [node[1] for node in met if node[0] == word]
    return sorted({number for number in meant if number in variables and number not in own})


def outside_funs(e):
    """An expression and all within it, but what stands within funs."""
    met = []
    waiting = [e]
    while waiting:
        node = waiting.pop()
        met.append(node)
        if node[0] != "fun":
            waiting.extend(children_of(node))
    return met


def stirs(e, restless):
    """True where the expression itself, but for what is within it, is not idle; restless has the functions so."""
    if e[0] == "op":
        return e[1] in STIRRING_OPS
    if e[0] == "call":
        return e[1] in restless
    return e[0] in STIRRING


def is_still(e, restless):
    """True where neither the expression nor anything within it, but within funs, stirs."""
    return not any([stirs(node, restless) for node in outside_funs(e)])


def restless_functions(functions):
    """The functions of which a call is not idle, as a dict's keys: deep ones, and those whose body is not idle."""
    restless = {}
    callers = {}
    for number, (head, count, body) in enumerate(functions):
        met = outside_funs(body)
        if head == "deep" or any([stirs(node, {}) for node in met]):
            restless[number] = True
        for node in met:
            if node[0] == "call":
                callers.setdefault(node[1], []).append(number)
    waiting = list(restless)
    while waiting:
        callee = waiting.pop()
        for caller in callers.get(callee, []):
            if caller not in restless:
                restless[caller] = True
                waiting.append(caller)
    return restless


class Ground:
    """What there is to know of a function for its expressions: its vars, and which functions' calls are not idle."""

    def __init__(self, variables, restless):
        self.variables = variables
        self.restless = restless

    def read_in(self, e):
        """The vars bound outside of the expression that it reads."""
        return outer_vars(e, self.variables, "name")

    def set_in(self, e):
        """The vars bound outside of the expression that it sets."""
        return outer_vars(e, self.variables, "set")

    def quiet(self, e):
        """True where the expression is idle but perhaps for its sets of outer vars."""
        return is_still(e, self.restless)

    def idle(self, e):
        return self.quiet(e) and not self.set_in(e)

    def calm(self, e):
        return self.idle(e) and not self.read_in(e)

    def leaves(self, e, other):
        """True where the expression sets no var that the other one reads or sets."""
        met = self.read_in(other) + self.set_in(other)
        return not [number for number in self.set_in(e) if number in met]

    def apart(self, e, other):
        """True where neither meddles with the other's vars, and one of both at least is quiet."""
        if not self.leaves(e, other) or not self.leaves(other, e):
            return False
        return self.quiet(e) or self.quiet(other)


def ground_of(core, function):
    return Ground(vars_of(core[0][function][2]), restless_functions(core[0]))


def all_grounds(core):
    """The ground of each function."""
    restless = restless_functions(core[0])
    return [Ground(vars_of(body), restless) for head, count, body in core[0]]


def reads(core, function, path):
    """The vars bound outside of the expression that it reads."""
    return ground_of(core, function).read_in(at_path(core[0][function][2], path))


def sets(core, function, path):
    """The vars bound outside of the expression that it sets."""
    return ground_of(core, function).set_in(at_path(core[0][function][2], path))


def is_quiet(core, function, path):
    """True where the expression is idle but perhaps for its sets of outer vars."""
    return ground_of(core, function).quiet(at_path(core[0][function][2], path))


def is_idle(core, function, path):
    return ground_of(core, function).idle(at_path(core[0][function][2], path))


def is_calm(core, function, path):
    return ground_of(core, function).calm(at_path(core[0][function][2], path))


def are_apart(core, function, path, other):
    """True where neither meddles with the other's vars, and one of both at least is quiet."""
    body = core[0][function][2]
    return ground_of(core, function).apart(at_path(body, path), at_path(body, other))
