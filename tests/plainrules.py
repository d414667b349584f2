"""The rules of steps once more, the plain way, by calls within calls: for small cores alone."""


def kids(e):
    if e[0] in ("do", "op", "new", "call"):
        return list(e[-1])
    if e[0] == "apply":
        return [e[1]] + list(e[2])
    return [part for part in e[1:] if isinstance(part, tuple) and part and isinstance(part[0], str)]


def with_kids(e, children):
    if e[0] in ("do", "op", "new", "call"):
        return e[:-1] + (tuple(children),)
    if e[0] == "apply":
        return ("apply", children[0], tuple(children[1:]))
    many = len(kids(e))
    return e[:len(e) - many] + tuple(children)


def everything(e):
    return [e] + [one for child in kids(e) for one in everything(child)]


def changed(e, path, change):
    """The expression with change(what stands at the path) there; change tells None where nothing comes of it."""
    if not path:
        return change(e)
    children = kids(e)
    if path[0] >= len(children):
        return None
    inner = changed(children[path[0]], path[1:], change)
    if inner is None:
        return None
    children[path[0]] = inner
    return with_kids(e, children)


def mapped(e, change):
    """Each expression changed, the inner ones first."""
    return change(with_kids(e, [mapped(child, change) for child in kids(e)]))


class Numbered:
    """Tells a function's ids anew, in the order of a walk."""

    def __init__(self, function):
        head, count, body = function
        self.fresh = count
        self.told = (head, count, self.anew(body, {number: number for number in range(count)}))

    def bind(self):
        self.fresh += 1
        return self.fresh - 1

    def anew(self, e, seen):
        word = e[0]
        if word == "name":
            return ("name", seen[e[1]])
        if word == "set":
            return ("set", seen[e[1]], self.anew(e[2], seen))
        if word in ("let", "var", "each"):
            number = self.bind()
            thing = self.anew(e[2], seen)
            return (word, number, thing, self.anew(e[3], {**seen, e[1]: number}))
        if word == "fun":
            numbers = tuple(self.bind() for _ in e[1])
            return ("fun", numbers, self.anew(e[2], {**seen, **dict(zip(e[1], numbers))}))
        return with_kids(e, [self.anew(child, seen) for child in kids(e)])


class PlainRules:
    def __init__(self, core):
        self.functions, self.records, self.opens = core

    def rests(self, e):
        if e[0] in ("say", "fault", "while", "apply", "get") or e[:2] in (("op", "div"), ("op", "at")):
            return False
        if e[0] == "call" and (self.functions[e[1]][0] == "deep" or not self.rests(self.functions[e[1]][2])):
            return False
        return e[0] == "fun" or all(self.rests(child) for child in kids(e))

    def vars_met(self, e, word):
        bound = {one[1] for one in everything(e) if one[0] in ("let", "var", "each")}
        return {one[1] for one in everything(e) if one[0] == word and one[1] in self.vars} - bound

    def reads(self, e):
        return self.vars_met(e, "name")

    def sets(self, e):
        return self.vars_met(e, "set")

    def idle(self, e):
        return self.rests(e) and not self.sets(e)

    def calm(self, e):
        return self.idle(e) and not self.reads(e)

    def apart(self, one, other):
        if self.sets(one) & (self.reads(other) | self.sets(other)) or self.sets(other) & (self.reads(one) | self.sets(one)):
            return False
        return self.rests(one) or self.rests(other)

    def step(self, step):
        """The core behind the step, or None."""
        told = getattr(self, "of_" + step[0])(*step[1:])
        if told is None:
            return None
        functions, records, opens = told
        return tuple(Numbered(function).told for function in functions), records, opens

    def look_at(self, function):
        self.vars = {one[1] for one in everything(self.functions[function][2]) if one[0] == "var"}

    def at_place(self, function, path, change):
        self.look_at(function)
        head, count, body = self.functions[function]
        told = changed(body, path, change)
        if told is None:
            return None
        functions = list(self.functions)
        functions[function] = (head, count, told)
        return functions, self.records, self.opens

    def of_unfold(self, function, path):
        def change(e):
            if e[0] != "call" or self.functions[e[1]][0] != "function":
                return None
            _, count, body = self.functions[e[1]]
            # Ids that no function has, apart for params and binders.
            def away(one):
                if one[0] in ("name", "set", "let", "var", "each"):
                    return (one[0], one[1] + 1000) + one[2:]
                return ("fun", tuple(number + 1000 for number in one[1]), one[2]) if one[0] == "fun" else one
            told = mapped(body, away)
            for number in range(count - 1, -1, -1):
                told = ("let", 1000 + number, e[2][number], told)
            return told
        return self.at_place(function, path, change)

    def of_spread(self, function, path):
        def change(e):
            if e[0] != "let":
                return None
            _, x, thing, body = e
            in_fun = any(("name", x) in everything(one) for one in everything(body) if one[0] == "fun")
            idle = self.idle(thing) and not self.reads(thing) & self.sets(body) and not in_fun
            if not self.calm(thing) and not idle:
                return None
            return mapped(body, lambda one: thing if one == ("name", x) else one)
        return self.at_place(function, path, change)

    def firsts(self, e, x):
        """The paths of all first places."""
        if e[0] == "name":
            return [()]
        if e[0] in ("number", "fault", "while", "fun") or not kids(e):
            return []
        told = [(0,) + path for path in self.firsts(kids(e)[0], x)]
        if e[0] in ("op", "new", "call", "apply"):
            for number in range(1, len(kids(e))):
                ahead = kids(e)[:number]
                if all(self.calm(one) and ("name", x) not in everything(one) for one in ahead):
                    told += [(number,) + path for path in self.firsts(kids(e)[number], x)]
        return told

    def of_now(self, function, path):
        def change(e):
            if e[0] != "let":
                return None
            _, x, thing, body = e
            if everything(body).count(("name", x)) != 1:
                return None
            for place in self.firsts(body, x):
                seen = []
                changed(body, place, seen.append)
                if seen == [("name", x)]:
                    return changed(body, place, lambda one: thing)
            return None
        return self.at_place(function, path, change)

    def of_flip(self, function, path):
        def change(e):
            if e[0] == "if" and e[1][0] == "op" and e[1][1] == "not":
                return ("if", e[1][2][0], e[3], e[2])
        return self.at_place(function, path, change)

    def of_flat(self, function, path):
        def change(e):
            if e[0] != "do" or len(e[1]) > 1 and "do" not in [one[0] for one in e[1]]:
                return None
            things = sum([one[1] if one[0] == "do" else (one,) for one in e[1]], ())
            return ("do", things) if len(things) > 1 else things[0]
        return self.at_place(function, path, change)

    def of_drop(self, function, path, k):
        def change(e):
            if e[0] == "do" and k + 1 < len(e[1]) and self.idle(e[1][k]):
                return ("do", tuple(one for number, one in enumerate(e[1]) if number != k))
        return self.at_place(function, path, change)

    def of_swap(self, function, path, k):
        def change(e):
            if e[0] == "do" and k + 2 < len(e[1]) and self.apart(e[1][k], e[1][k + 1]):
                things = list(e[1])
                things[k], things[k + 1] = things[k + 1], things[k]
                return ("do", tuple(things))
        return self.at_place(function, path, change)

    def of_part(self, function, path, k):
        def change(e):
            if e[0] != "each" or e[3][0] != "do" or k not in range(1, len(e[3][1])):
                return None
            _, x, thing, (_, es) = e
            if not self.idle(thing) or any(self.reads(thing) & self.sets(one) for one in es):
                return None
            if not self.apart(("do", es[:k]), ("do", es[k:])):
                return None
            return ("do", (("each", x, thing, ("do", es[:k])), ("each", x, thing, ("do", es[k:]))))
        return self.at_place(function, path, change)

    def met(self):
        for number, (_, _, body) in enumerate(self.functions):
            self.look_at(number)
            yield from everything(body)

    def with_bodies(self, change):
        return [(head, count, mapped(body, change)) for head, count, body in self.functions]

    def of_lose(self, gone):
        if self.functions[gone][0] == "open" or any(e[:2] == ("call", gone) for e in self.met()):
            return None
        less = lambda number: number - (number > gone)
        functions = self.with_bodies(lambda e: ("call", less(e[1]), e[2]) if e[0] == "call" else e)
        del functions[gone]
        return functions, self.records, tuple((name, less(number)) for name, number in self.opens)

    def of_param(self, function, k):
        head, count, body = self.functions[function]
        if head == "open" or k >= count or ("name", k) in everything(body):
            return None
        if not all(self.idle(e[2][k]) for e in self.met() if e[:2] == ("call", function)):
            return None
        functions = self.with_bodies(
            lambda e: ("call", function, e[2][:k] + e[2][k + 1:]) if e[:2] == ("call", function) else e)
        less = lambda e: ("name", e[1] - 1) if e[0] == "name" and k < e[1] < count else e
        functions[function] = (head, count - 1, mapped(functions[function][2], less))
        return functions, self.records, self.opens

    def of_fields(self, record, order):
        if record >= len(self.records) or sorted(order) != list(range(self.records[record])):
            return None
        for e in self.met():
            if e[:2] == ("new", record) and sum(not self.calm(one) for one in e[2]) > 1:
                return None

        def change(e):
            if e[:2] == ("new", record):
                return ("new", record, tuple(e[2][number] for number in order))
            return ("get", record, order.index(e[2]), e[3]) if e[:2] == ("get", record) else e
        return self.with_bodies(change), self.records, self.opens

    def of_lost(self, gone):
        if gone >= len(self.records) or any(e[0] in ("new", "get") and e[1] == gone for e in self.met()):
            return None
        change = lambda e: (e[0], e[1] - (e[1] > gone)) + e[2:] if e[0] in ("new", "get") else e
        return self.with_bodies(change), self.records[:gone] + self.records[gone + 1:], self.opens
