"""Programs made by chance with more of what steps and turnings are for."""

from makers import Maker


class StepMaker(Maker):
    """Makes more of what steps are for."""

    def brackets(self, deep, path, scope):
        ways = [self.binder, self.binder, self.binder, self.sum, self.many, self.many, self.over, self.turned, self.row]
        ways += [self.fun, self.said, self.op, self.plain] if self.chance.random() < 0.7 else [self.applied, self.fault]
        if self.seen(scope, True):
            ways += [self.laid, self.laid]
        if self.records:
            ways += [self.new, self.new, self.get]
        if self.callable_ones():
            ways += [self.call, self.call, self.call]
        self.lay("(")
        told = self.chance.choice(ways)(deep, path, scope)
        self.lay(")")
        return told

    def sum(self, deep, path, scope):
        word = self.chance.choice(("add", "sub", "same", "less"))
        self.lay(word)
        return ("op", word, self.all_of(2, deep, path, scope))

    def said(self, deep, path, scope):
        self.lay("say")
        return ("say",) + self.all_of(1, deep, path, scope)

    def many(self, deep, path, scope):
        self.lay("do")
        return ("do", self.all_of(self.chance.randint(1, 4), deep, path, scope))

    def over(self, deep, path, scope):
        """An each whose body is a do."""
        self.lay("each")
        binder = self.bind(self.chance.choice("abc"), False)
        thing = self.expression(min(deep - 1, 1), path + (0,), scope)
        first = len(self.rows[self.part])
        self.nodes[(self.part, first)] = (self.number, path + (1,))
        self.lay("(")
        body = self.many(max(deep - 1, 1), path + (1,), scope + (binder,))
        self.lay(")")
        return ("each", binder[1], thing, body)

    def turned(self, deep, path, scope):
        """An if of a not."""
        self.lay("if", "(", "not")
        self.nodes[(self.part, len(self.rows[self.part]) - 2)] = (self.number, path + (0,))
        test = self.expression(deep - 1, path + (0, 0), scope)
        self.lay(")")
        one = self.expression(deep - 1, path + (1,), scope)
        return ("if", ("op", "not", (test,)), one, self.expression(deep - 1, path + (2,), scope))

    def tight_program(self):
        """The program with as few gaps as can be, but for some by chance."""
        told = []
        for name, row in zip(("one", "two", "three"), self.rows):
            text, ahead = "", "("
            for word in row:
                needed = word not in "()" and ahead not in "()"
                gaps = (" ", "\n", " ; a remark\n") if needed else ("", "", "", " ", "  ")
                text += self.chance.choice(gaps) + word
                ahead = word
            told.append((name, text + self.chance.choice(("", "\n", ";"))))
        return tuple(told)


class VarMaker(StepMaker):
    """Makes many vars, read and set, and little else that stirs."""

    def expression(self, deep, path, scope):
        # A body begins with two vars.
        if path in ((), (1,)) and len(self.heads) < 6:
            first = len(self.rows[self.part])
            self.lay("(", "var")
            binder = self.bind(self.chance.choice("vc"), True)
            thing = self.expression(0, path + (0,), scope)
            told = ("var", binder[1], thing, self.expression(max(deep, 4), path + (1,), scope + (binder,)))
            self.lay(")")
            self.nodes[(self.part, first)] = (self.number, path)
            return told
        return super().expression(deep, path, scope)

    def brackets(self, deep, path, scope):
        ways = [self.sum, self.many, self.over, self.turned, self.let, self.let]
        ways += [self.laid] * 2 if self.seen(scope, True) else []
        ways += [self.fun] if self.chance.random() < 0.5 else [self.said, self.binder]
        ways += [self.new] if self.records else []
        self.lay("(")
        told = self.chance.choice(ways)(deep, path, scope)
        self.lay(")")
        return told

    def let(self, deep, path, scope):
        self.lay("let")
        binder = self.bind(self.chance.choice("abcv"), False)
        thing = self.expression(min(deep - 1, 1), path + (0,), scope)
        return ("let", binder[1], thing, self.expression(deep - 1, path + (1,), scope + (binder,)))
