"""Cores made by chance: what steps tell of them beside a plain way, and that it runs the same."""

import itertools
import unittest

from stepmakers import StepMaker
from plainrules import PlainRules, everything, kids
from turnsame.checking import back_paper, checked
from turnsame.cores import right_core
from turnsame.errors import NoPaper, NoStep
from turnsame.rules import stepped
from turnsame.running import run

MANY = 250
PLACED = ("unfold", "spread", "now", "flip", "flat")
COUNTED = ("drop", "swap", "part")


def paths(e, path=()):
    yield path
    for number, child in enumerate(kids(e)):
        yield from paths(child, path + (number,))


def size(core):
    return sum(len(everything(body)) for _, _, body in core[0])


def all_steps(core):
    for function, (_, count, body) in enumerate(core[0]):
        for path in paths(body):
            yield from ((rule, function, path) for rule in PLACED)
            yield from ((rule, function, path, k) for rule in COUNTED for k in range(4))
        yield ("lose", function)
        yield from (("param", function, k) for k in range(count + 1))
    for record, count in enumerate(core[1]):
        yield ("lost", record)
        yield from (("fields", record, order) for order in itertools.permutations(range(count)))


def told_or_none(core, step):
    try:
        return stepped(core, step)
    except NoStep:
        return None


def made():
    for seed in range(MANY):
        maker = StepMaker(seed)
        if size(maker.core()) <= 120:
            yield seed, maker


def value_rows(maker, count):
    choices = (0, 1, 5, -3, (), (1, 2), (0, 7, -1))
    return [[maker.chance.choice(choices) for _ in range(count)] for _ in range(3)]


class MadeSteps(unittest.TestCase):
    def same_runs(self, maker, one, other, why):
        for name, number in one[2]:
            for values in value_rows(maker, one[0][number][1]):
                for bound in (0, 1, 2, 5, 30):
                    self.assertEqual(run(one, name, values, bound), run(other, name, values, bound), why)

    def test_every_step(self):
        met = {}
        for seed, maker in made():
            core = maker.core()
            for step in all_steps(core):
                told = told_or_none(core, step)
                self.assertEqual(told, PlainRules(core).step(step), (seed, step))
                if told is not None:
                    met[step[0]] = met.get(step[0], 0) + 1
                    self.assertTrue(right_core(told), (seed, step))
                    self.same_runs(maker, core, told, (seed, step))
        self.assertEqual(len(met), 12)
        self.assertGreater(min(met.values()), 20, met)

    def walk(self, maker, core, many):
        """Right steps, one behind the other, and the core behind them."""
        steps = []
        for _ in range(many):
            right = [step for step in all_steps(core) if PlainRules(core).step(step) is not None]
            right = [step for step in right if size(PlainRules(core).step(step)) < 300]
            if not right:
                break
            rule = maker.chance.choice(sorted({step[0] for step in right}))
            steps.append(maker.chance.choice([step for step in right if step[0] == rule]))
            core = stepped(core, steps[-1])
        return tuple(steps), core

    def is_let_by(self, one, other, paper):
        try:
            return checked(one, other, paper)
        except NoPaper:
            return False

    def test_papers(self):
        for seed, maker in list(made())[:60]:
            core = maker.core()
            if size(core) > 60:
                continue
            there, one = self.walk(maker, core, 4)
            back, other = self.walk(maker, core, 4)
            laid = (tuple(range(len(one[0]))), tuple(range(len(one[1]))), ())
            self.same_runs(maker, core, one, seed)
            self.assertIs(checked(core, one, (there, ()) + laid), True, seed)
            self.assertIs(checked(one, core, back_paper((there, ()) + laid)), True, seed)
            # From one core two ways: they meet where both lead to the same core, and so the other way.
            both = (there, back) + laid
            self.assertIs(self.is_let_by(core, core, both), one == other, seed)
            self.assertIs(self.is_let_by(core, core, back_paper(both)), one == other, seed)


if __name__ == "__main__":
    unittest.main()
