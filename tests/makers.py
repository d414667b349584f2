"""Right programs made by chance, with what reading them has to tell, and a plain way to run their cores."""

import random

NAMES = ("a", "b", "c", "v")
TWO = ("add", "sub", "mul", "div", "less", "same", "at")


class Maker:
    """Makes a program and, beside it, its core, the thing of each token and the span of each expression."""

    def __init__(self, seed):
        self.chance = random.Random(seed)
        self.heads = [self.chance.choice(("function", "deep", "open")) for _ in range(self.chance.randint(1, 6))]
        self.counts = [self.chance.randint(0, 3) for _ in self.heads]
        self.records = [self.chance.randint(1, 3) for _ in range(self.chance.randint(0, 2))]
        self.rows = [[] for _ in range(self.chance.randint(1, 3))]
        self.things = {}
        self.nodes = {}
        self.spans = {}
        self.scopes = {}
        self.functions = []
        self.opens = []
        self.make()

    def make(self):
        parts = sorted(self.chance.randrange(len(self.rows)) for _ in self.heads)
        for record, count in enumerate(self.records):
            # Records stand in the first part, under names of their own.
            self.part = 0
            self.lay("(", "record")
            self.lay_thing(f"r{'xyz'[record]}", ("record", record))
            for field in range(count):
                self.lay_thing("abc"[field], ("field", record, field))
            self.lay(")")
        for number, part in enumerate(parts):
            self.part = part
            self.function(number)

    def function(self, number):
        self.number, self.fresh = number, 0
        self.lay("(", self.heads[number])
        self.lay_thing(f"f{'abcdef'[number]}", ("function", number))
        self.lay("(")
        names = self.chance.sample(NAMES, self.counts[number])
        scope = tuple(self.bind(name, False) for name in names)
        self.lay(")")
        body = self.expression(self.chance.randint(1, 5), (), scope)
        self.lay(")")
        self.functions.append((self.heads[number], self.counts[number], body))
        if self.heads[number] == "open":
            self.opens.append((f"f{'abcdef'[number]}", number))

    def lay(self, *words):
        self.rows[self.part].extend(words)

    def lay_thing(self, word, thing):
        self.things[(self.part, len(self.rows[self.part]))] = thing
        self.lay(word)

    def bind(self, name, is_var):
        number = self.fresh
        self.fresh += 1
        self.lay_thing(name, ("local", self.number, number))
        return (name, number, is_var)

    def program(self):
        gaps = (" ", "\n", "  ", " ; a remark\n")
        return tuple(
            (name, "".join(self.chance.choice(gaps) + word for word in row) + self.chance.choice(("", "\n", ";")))
            for name, row in zip(("one", "two", "three"), self.rows)
        )

    def core(self):
        return tuple(self.functions), tuple(self.records), tuple(sorted(self.opens))

    def seen(self, scope, vars_alone):
        """The names that mean something in a scope: the innermost of each name, where it is no barred var."""
        innermost = {name: (number, is_var) for name, number, is_var in scope}
        return [
            (name, number) for name, (number, is_var) in innermost.items()
            if is_var is not None and (is_var or not vars_alone)
        ]

    def callable_ones(self):
        """Functions that may be called here: a "function" calls only "function"s behind it, so there is no ring."""
        return [
            number for number, head in enumerate(self.heads)
            if head == "deep" or head == "function" and (self.heads[self.number] != "function" or number > self.number)
        ]

    def expression(self, deep, path, scope):
        first = len(self.rows[self.part])
        self.nodes[(self.part, first)] = (self.number, path)
        self.scopes[(self.number, path)] = [(name, number) for name, number, _ in scope]
        told = self.leaf(scope) if deep == 0 or self.chance.random() < 0.1 else self.brackets(deep, path, scope)
        self.spans[(self.number, path)] = (self.part, first, len(self.rows[self.part]) - first)
        return told

    def leaf(self, scope):
        names = self.seen(scope, False)
        if names and self.chance.random() < 0.7:
            name, number = self.chance.choice(names)
            self.lay_thing(name, ("local", self.number, number))
            return ("name", number)
        number = self.chance.choice((0, 0, 1, 1, 2, -1, 3, 32767, -32768))
        self.lay(str(number))
        return ("number", number)

    def all_of(self, many, deep, path, scope):
        return tuple(self.expression(deep - 1, path + (number,), scope) for number in range(many))

    def brackets(self, deep, path, scope):
        ways = [self.binder, self.binder, self.plain, self.op, self.row, self.fun, self.applied, self.fault]
        if self.seen(scope, True):
            ways += [self.laid, self.laid]
        if self.records:
            ways += [self.new, self.get]
        if self.callable_ones():
            ways += [self.call, self.call]
        self.lay("(")
        told = self.chance.choice(ways)(deep, path, scope)
        self.lay(")")
        return told

    def binder(self, deep, path, scope):
        word = self.chance.choice(("let", "var", "each"))
        self.lay(word)
        binder = self.bind(self.chance.choice(NAMES), word == "var")
        thing = self.expression(deep - 1, path + (0,), scope)
        return (word, binder[1], thing, self.expression(deep - 1, path + (1,), scope + (binder,)))

    def laid(self, deep, path, scope):
        name, number = self.chance.choice(self.seen(scope, True))
        self.lay("set")
        self.lay_thing(name, ("local", self.number, number))
        return ("set", number, self.expression(deep - 1, path + (0,), scope))

    def plain(self, deep, path, scope):
        word, many = self.chance.choice((("if", 3), ("while", 2), ("say", 1), ("do", self.chance.randint(1, 4))))
        self.lay(word)
        es = self.all_of(many, deep, path, scope)
        return ("do", es) if word == "do" else (word,) + es

    def op(self, deep, path, scope):
        word = self.chance.choice(TWO + ("not", "size"))
        self.lay(word)
        return ("op", word, self.all_of(2 if word in TWO else 1, deep, path, scope))

    def row(self, deep, path, scope):
        self.lay("row")
        return ("op", "row", self.all_of(self.chance.randint(0, 4), deep, path, scope))

    def fun(self, deep, path, scope):
        self.lay("fun", "(")
        names = self.chance.sample(NAMES, self.chance.randint(0, 2))
        barred = tuple((name, number, None if is_var else is_var) for name, number, is_var in scope)
        binders = tuple(self.bind(name, False) for name in names)
        self.lay(")")
        body = self.expression(deep - 1, path + (0,), barred + binders)
        return ("fun", tuple(number for _, number, _ in binders), body)

    def applied(self, deep, path, scope):
        self.lay("apply")
        es = self.all_of(self.chance.randint(1, 3), deep, path, scope)
        return ("apply", es[0], es[1:])

    def fault(self, deep, path, scope):
        word = self.chance.choice(NAMES)
        self.lay("fault", word)
        return ("fault", word)

    def new(self, deep, path, scope):
        record = self.chance.randrange(len(self.records))
        self.lay("new")
        self.lay_thing(f"r{'xyz'[record]}", ("record", record))
        return ("new", record, self.all_of(self.records[record], deep, path, scope))

    def get(self, deep, path, scope):
        record = self.chance.randrange(len(self.records))
        field = self.chance.randrange(self.records[record])
        self.lay("get")
        self.lay_thing(f"r{'xyz'[record]}", ("record", record))
        self.lay_thing("abc"[field], ("field", record, field))
        return ("get", record, field, self.expression(deep - 1, path + (0,), scope))

    def call(self, deep, path, scope):
        number = self.chance.choice(self.callable_ones())
        self.lay_thing(f"f{'abcdef'[number]}", ("function", number))
        return ("call", number, self.all_of(self.counts[number], deep, path, scope))


class Stop(Exception):
    """A run's end, at whatever depth it comes."""


class Runner:
    """Runs a core the plain way, by calls within calls: for small runs alone."""

    def __init__(self, core, ticks):
        self.core, self.ticks, self.deeds = core, ticks, []

    def run(self, name, values):
        function = self.core[0][dict(self.core[2])[name]]
        try:
            value = self.value(function[2], {number: [value] for number, value in enumerate(values)})
        except Stop as stop:
            return self.deeds, stop.args[0]
        return self.deeds, ("back", self.look(value))

    def worth(self, value):
        return value if type(value) is int else 0

    def tick(self):
        if not self.ticks:
            raise Stop(("dry",))
        self.ticks -= 1

    def value(self, e, names):
        return getattr(self, "of_" + e[0])(names, *e[1:])

    def values(self, es, names):
        return [self.value(e, names) for e in es]

    def of_number(self, names, number):
        return number

    def of_name(self, names, number):
        return names[number][0]

    def of_let(self, names, number, e, body):
        return self.value(body, {**names, number: [self.value(e, names)]})

    of_var = of_let

    def of_set(self, names, number, e):
        names[number][0] = self.value(e, names)
        return names[number][0]

    def of_do(self, names, es):
        return self.values(es, names)[-1]

    def of_if(self, names, test, one, other):
        return self.value(one if self.worth(self.value(test, names)) else other, names)

    def of_while(self, names, test, body):
        while self.worth(self.value(test, names)):
            self.tick()
            self.value(body, names)
        return 0

    def of_each(self, names, number, e, body):
        row = self.value(e, names)
        for k in row[2] if type(row) is tuple and row[0] == "row" else ():
            self.value(body, {**names, number: [k]})
        return 0

    def of_say(self, names, e):
        value = self.value(e, names)
        self.deeds.append(self.look(value))
        return value

    def look(self, value):
        if type(value) is int:
            return value
        return value[2] if value[0] == "row" else "thing"

    def of_fault(self, names, word):
        raise Stop(("fault", word))

    def of_op(self, names, word, es):
        values = self.values(es, names)
        worths = [self.worth(value) for value in values]
        row = values[0][2] if values and type(values[0]) is tuple and values[0][0] == "row" else None
        if word == "row":
            return ("row", None, tuple(worths))
        if word == "size":
            return len(row or ())
        if word == "not":
            return int(worths[0] == 0)
        if word == "at":
            if row is None or worths[1] not in range(len(row)):
                raise Stop(("fault", "range"))
            return row[worths[1]]
        if word in ("less", "same"):
            return int(worths[0] < worths[1] if word == "less" else worths[0] == worths[1])
        if word == "div" and worths[1] == 0:
            raise Stop(("fault", "nought"))
        whole = {
            "add": lambda a, b: a + b, "sub": lambda a, b: a - b, "mul": lambda a, b: a * b, "div": lambda a, b: a // b,
        }[word](*worths)
        while whole > 32767:
            whole -= 65536
        while whole < -32768:
            whole += 65536
        return whole

    def of_new(self, names, record, es):
        return ("new", record, self.values(es, names))

    def of_get(self, names, record, field, e):
        value = self.value(e, names)
        if type(value) is int or value[:2] != ("new", record):
            raise Stop(("fault", "field"))
        return value[2][field]

    def of_fun(self, names, ids, body):
        return ("fun", ids, (body, {number: [box[0]] for number, box in names.items()}))

    def of_apply(self, names, e, es):
        fun, *values = self.values((e,) + es, names)
        if type(fun) is int or fun[0] != "fun" or len(fun[1]) != len(values):
            raise Stop(("fault", "apply"))
        self.tick()
        return self.value(fun[2][0], {**fun[2][1], **{number: [value] for number, value in zip(fun[1], values)}})

    def of_call(self, names, number, es):
        values = self.values(es, names)
        if self.core[0][number][0] == "deep":
            self.tick()
        return self.value(self.core[0][number][2], {k: [value] for k, value in enumerate(values)})
