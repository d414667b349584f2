"""A program's expressions, the plain way: as they are written, with what they read, set and stir."""

from plainnames import HEADS, PlainNames
from turnsame.tokens import text_of, tokens_of

AHEAD = {"let": 1, "var": 1, "each": 1, "fun": 1, "set": 1, "new": 1, "get": 2, "fault": 1}
STIRRING = ("say", "fault", "while", "apply", "get", "div", "at")
IN_ORDER = ("add", "sub", "mul", "div", "less", "same", "at", "not", "size", "row", "new", "call", "apply")
FIRST_ALONE = ("do", "if", "let", "var", "each", "set", "say", "get")


class Expr:
    """An expression: its tokens, its word, those within it, the one around it, its form, what it binds."""

    def __init__(self, part, node, parent, form):
        self.part, self.first, self.last = part, node[0], node[0] if len(node) == 2 else node[2]
        self.place = (part, self.first)
        self.parent, self.form = parent, form
        self.word = node[1] if len(node) == 2 else node[1][0][1]
        self.kids, self.bound = [], []

    def path(self):
        return self.parent.path() + (self.parent.kids.index(self),) if self.parent else ()

    def has(self, place):
        return place[0] == self.part and self.first <= place[1] <= self.last

    def everything(self):
        return [self] + [one for kid in self.kids for one in kid.everything()]

    def sees_bound(self):
        """True where the expression sees what the one around it binds."""
        return self.parent is not None and self.parent.kids[-1] is self


class PlainTrees:
    def __init__(self, program):
        self.program = program
        self.rows = [tokens_of(text)[0] for _, text in program]
        self.names = PlainNames(program)
        self.meant = self.names.meant
        self.exprs, self.forms, self.locals = {}, {}, set()
        for part, tree in enumerate(self.names.trees):
            for node in tree:
                self.form(part, node)
        self.functions = sorted(place for place in self.forms if self.word((place[0], place[1] - 1)) != "record")
        self.records = sorted(place for place in self.forms if place not in self.functions)

    def word(self, place):
        return self.rows[place[0]][place[1]][1]

    def signs(self, expr):
        tokens = self.rows[expr.part][expr.first:expr.last + 1]
        return tokens[0][1] + text_of(tokens[1:], "")

    def gap(self, expr):
        return self.rows[expr.part][expr.first][0]

    def form(self, part, node):
        first, nodes, last = node
        place = (part, nodes[1][0])
        params = [] if nodes[0][1] == "record" else [(part, at) for at, _ in nodes[2][1]]
        self.locals.update(params)
        body = self.expr(part, nodes[3], None, place) if nodes[0][1] in HEADS else None
        self.forms[place] = (first, last, params, body)

    def expr(self, part, node, parent, form):
        told = Expr(part, node, parent, form)
        self.exprs[told.place] = told
        if len(node) == 3:
            word = told.word
            nodes = node[1][1:]
            if word == "fun":
                told.bound = [(part, at) for at, _ in nodes[0][1]]
            elif word in ("let", "var", "each"):
                told.bound = [(part, nodes[0][0])]
            self.locals.update(told.bound)
            is_call = (part, node[0] + 1) in self.meant
            told.called = self.meant[(part, node[0] + 1)] if is_call else None
            told.record = self.meant[(part, node[0] + 2)] if word == "new" and not is_call else None
            told.word = "call" if is_call else word
            for kid in nodes if is_call else nodes[AHEAD.get(word, 0):]:
                told.kids.append(self.expr(part, kid, told, form))
        return told

    def calls_of(self, function):
        return [one for _, one in sorted(self.exprs.items()) if one.word == "call" and one.called == function]

    def news_of(self, record):
        return [one for _, one in sorted(self.exprs.items()) if one.word == "new" and one.record == record]

    def outer(self, expr):
        """The places in the expression of locals bound outside of it, with their binders."""
        return [(spot, thing) for spot, thing in sorted(self.meant.items())
                if expr.has(spot) and thing in self.locals and not expr.has(thing)]

    def is_set(self, spot):
        return self.word((spot[0], spot[1] - 1)) == "set"

    def is_var(self, thing):
        return self.word((thing[0], thing[1] - 1)) == "var"

    def sets_in(self, expr):
        return [(spot, thing) for spot, thing in self.outer(expr) if self.is_set(spot)]

    def reads(self, expr):
        return {thing for spot, thing in self.outer(expr) if self.is_var(thing) and not self.is_set(spot)}

    def sets(self, expr):
        return {thing for _, thing in self.sets_in(expr)}

    def quiet(self, expr):
        if expr.word in STIRRING:
            return False
        if expr.word == "call":
            if self.word((expr.called[0], expr.called[1] - 1)) == "deep" or not self.idle(self.forms[expr.called][3]):
                return False
        return expr.word == "fun" or all(self.quiet(kid) for kid in expr.kids)

    def idle(self, expr):
        return self.quiet(expr) and not self.sets(expr)

    def calm(self, expr):
        return self.idle(expr) and not self.reads(expr)

    def first_spots(self, expr, x):
        """The expressions in it that stand at a first place; x is a binder, or an expression in its stead."""
        if expr.word not in IN_ORDER + FIRST_ALONE:
            return [expr] if not expr.kids else []
        told = []
        for kid in expr.kids if expr.word in IN_ORDER else expr.kids[:1]:
            told += [kid] if kid is x else self.first_spots(kid, x)
            if not self.calm(kid) or kid is x or any(self.meant.get(one.place) == x for one in kid.everything()):
                break
        return told


def with_blanks(row):
    """The tokens with a blank wherever two words would run into one."""
    told = []
    for gap, word in row:
        if not gap and told and word not in "()" and told[-1][1] not in "()":
            gap = " "
        told.append((gap, word))
    return told


def laid(program, changes):
    """The program with tokens (part, at, many) in whose place a text is laid: so many as there are at once."""
    rows = [tokens_of(text)[0] for _, text in program]
    for part, at, many, text in sorted(changes, key=lambda change: change[:3])[::-1]:
        tokens, tail = tokens_of(text)
        assert not tail
        rows[part][at:at + many] = tokens
    return of_rows(program, rows)


def of_rows(program, rows):
    return tuple((name, text_of(with_blanks(row), tokens_of(text)[1])) for (name, text), row in zip(program, rows))
