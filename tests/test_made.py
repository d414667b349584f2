"""Programs made by chance: what is read, run and told of them, beside what another way tells."""

import unittest

from makers import Maker, Runner
from turnsame.calm import is_calm, is_idle, is_quiet, reads, sets
from turnsame.cores import at_path, canon, free_ids, put_at, right_core, turned_ids
from turnsame.reading import Read
from turnsame.running import run
from turnsame.tokens import tokens_of

MANY = 400


def made():
    for seed in range(MANY):
        maker = Maker(seed)
        program = maker.program()
        if all(len(row) <= 600 for row in maker.rows):
            yield seed, maker, program


class Reading(unittest.TestCase):
    def test_cores(self):
        met = 0
        for seed, maker, program in made():
            core = Read(program).core()
            self.assertEqual(core, maker.core(), seed)
            self.assertTrue(right_core(core), seed)
            met += 1
        self.assertGreater(met, MANY // 2)

    def test_things_and_expressions(self):
        for seed, maker, program in made():
            read = Read(program)
            for part, row in enumerate(maker.rows):
                self.assertEqual(read.words(part), row)
                for at in range(-1, len(row) + 1):
                    self.assertEqual(read.thing_at(part, at), maker.things.get((part, at)), seed)
                    self.assertEqual(read.node_at(part, at), maker.nodes.get((part, at)), seed)
            for thing in maker.things.values():
                self.assertEqual(read.places_of(thing), sorted(p for p, t in maker.things.items() if t == thing))
            for node in maker.nodes.values():
                self.assertEqual(read.span_of(*node), maker.spans[node])
                self.assertEqual(read.names_at(*node), maker.scopes[node])

    def test_words_are_those_of_the_tokens(self):
        for seed, maker, program in made():
            read = Read(program)
            for part, (_, text) in enumerate(program):
                self.assertEqual(read.words(part), [word for _, word in tokens_of(text)[0]])


class Cores(unittest.TestCase):
    def test_canonical_ones_stay(self):
        for seed, maker, _ in made():
            for function in maker.core()[0]:
                self.assertEqual(canon(function), function)

    def test_turned_ids_are_turned_back(self):
        for seed, maker, _ in made():
            for head, count, body in maker.core()[0]:
                # A dict that turns binders' ids about, and moves them on, is undone by canon.
                ids = {number: 500 - number for number in range(count, 400)}
                turned = turned_ids(body, ids)
                self.assertEqual(canon((head, count, turned)), (head, count, body))
                self.assertEqual(turned_ids(turned, {other: number for number, other in ids.items()}), body)
                self.assertLessEqual(set(free_ids(body)), set(range(count)))

    def test_put_in_its_own_place(self):
        for seed, maker, _ in made():
            for function, path in list(maker.nodes.values())[:40]:
                body = maker.core()[0][function][2]
                self.assertEqual(put_at(body, path, at_path(body, path)), body)


class Running(unittest.TestCase):
    def test_runs(self):
        ends = {}
        for seed, maker, _ in made():
            core = maker.core()
            for name, number in core[2]:
                values = [maker.chance.choice((0, 1, 5, -3, (), (1, 2), (0, 7, -1))) for _ in range(core[0][number][1])]
                for bound in (0, 1, 2, 3, 5, 8, 20):
                    runner = Runner(core, bound)
                    rows = [("row", None, value) if type(value) is tuple else value for value in values]
                    told = run(core, name, values, bound)
                    self.assertEqual(told, runner.run(name, rows), (seed, name, values, bound))
                    ends[told[1][0]] = ends.get(told[1][0], 0) + 1
        self.assertEqual(sorted(ends), ["back", "dry", "fault"])
        self.assertGreater(min(ends.values()), 20)


def vars_met(e, word, bound, is_var):
    """The outer vars that an expression's names (sets) mean, by going down from binder to binder."""
    told = set()
    if e[0] == word and e[1] in is_var and e[1] not in bound:
        told.add(e[1])
    inner = bound
    if e[0] in ("let", "var", "each"):
        inner = bound | {e[1]}
    if e[0] == "fun":
        return told
    children = [part for part in e[1:] if isinstance(part, tuple)]
    if e[0] in ("do", "op", "new", "call", "apply"):
        children = [e[1]] * (e[0] == "apply") + list(e[-1])
    for child in children:
        told |= vars_met(child, word, inner if child is children[-1] else bound, is_var)
    return told


def all_vars(e):
    own = {e[1]} if e[0] == "var" else set()
    for part in e[1:]:
        if isinstance(part, tuple):
            own |= all_vars(part) if part and isinstance(part[0], str) else set().union(
                *[all_vars(one) for one in part if isinstance(one, tuple)])
    return own


def rests(core, e):
    """True where nothing in the expression, but within funs, stirs."""
    if e[0] in ("say", "fault", "while", "apply", "get") or e[:2] in (("op", "div"), ("op", "at")):
        return False
    if e[0] == "fun":
        return True
    if e[0] == "call":
        head, _, body = core[0][e[1]]
        if head == "deep" or not rests(core, body):
            return False
    if e[0] in ("do", "op", "new", "call"):
        return all(rests(core, child) for child in e[-1])
    return all(rests(core, part) for part in e[1:] if isinstance(part, tuple))


class Calm(unittest.TestCase):
    def test_all_paths(self):
        for seed, maker, _ in made():
            core = maker.core()
            for function, path in list(maker.nodes.values())[:60]:
                body = core[0][function][2]
                e = at_path(body, path)
                read = sorted(vars_met(e, "name", set(), all_vars(body)))
                laid = sorted(vars_met(e, "set", set(), all_vars(body)))
                quiet = rests(core, e)
                self.assertEqual(reads(core, function, path), read, (seed, e))
                self.assertEqual(sets(core, function, path), laid, (seed, e))
                self.assertIs(is_quiet(core, function, path), quiet, (seed, e))
                self.assertIs(is_idle(core, function, path), quiet and not laid, (seed, e))
                self.assertIs(is_calm(core, function, path), quiet and not laid and not read, (seed, e))


if __name__ == "__main__":
    unittest.main()
