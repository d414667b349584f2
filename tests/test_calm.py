"""What an expression reads and sets, and whether it is idle, calm, quiet or apart."""

import unittest

from helpers import core_of
from turnsame.calm import are_apart, is_calm, is_idle, is_quiet, reads, sets
from turnsame.cores import canon

OTHERS = """
(record r a)
(function idle (x) (var v x (do (set v (add v 1)) v)))
(function says (x) (say x))
(function callsays (x) (idle (says x)))
(function keeps (x) (fun () (says x)))
(deep far (x) x)
(function callsfar (x) (far x))
(function later (x) (last (idle x)))
(function last (x) (do x (size x)))
(function lateron (x) (verylast x))
(function verylast (x) (div x 1))
"""
# The function f stands behind those of OTHERS.
F = 10


def core_with(e, params="p"):
    return core_of(OTHERS + f"(function f ({params}) {e})")


class ReadsAndSets(unittest.TestCase):
    def check(self, e, path, read, laid):
        core = core_with(e)
        for told, wanted in ((reads(core, F, path), read), (sets(core, F, path), laid)):
            self.assertEqual(told, wanted, (e, path))
            self.assertIs(type(told), list)

    def test_vars_bound_outside(self):
        e = "(var v 1 (var w 2 (do (add v w) (set v 1) (set w v) (say w) p)))"
        self.check(e, (1, 1), [1, 2], [1, 2])
        self.check(e, (1, 1, 0), [1, 2], [])
        self.check(e, (1, 1, 0, 0), [1], [])
        self.check(e, (1, 1, 1), [], [1])
        self.check(e, (1, 1, 2), [1], [2])
        self.check(e, (1, 1, 3), [2], [])
        self.check(e, (1, 1, 4), [], [])
        self.check(e, (1,), [1], [1])
        self.check(e, (), [], [])
        self.check(e, (0,), [], [])

    def test_rising_each_once(self):
        e = "(var v 1 (var w 2 (var x 3 (row x w v v w x (set x 1) (set v (set x 2))))))"
        self.check(e, (1, 1, 1), [1, 2, 3], [1, 3])

    def test_no_vars(self):
        self.check("(let x 1 (each y (row x) (add x (add y p))))", (1, 1), [], [])
        self.check("(fun (x) (add x p))", (0,), [], [])
        self.check("(let x 1 (add x p))", (1,), [], [])

    def test_vars_bound_within(self):
        self.check("(var v 1 (let x v (var w 2 (do (set w v) w))))", (1, 1), [1], [])
        self.check("(var v 1 (var v v (set v v)))", (1,), [1], [])
        self.check("(var v 1 (do (var w 2 (set w 3)) (var w (set v 1) w)))", (1,), [], [1])

    def test_funs(self):
        e = "(var v 1 (do (fun (x) (var w x (do (set w 1) w))) v))"
        self.check(e, (1,), [1], [])
        self.check(e, (1, 0), [], [])
        self.check(e, (1, 0, 0), [], [])
        # Vars bound in the fun are the outer ones of what stands in it.
        self.check(e, (1, 0, 0, 1), [2 + 1], [2 + 1])
        self.check(e, (1, 0, 0, 1, 0), [], [3])
        self.check(e, (1, 0, 0, 1, 1), [3], [])


class Still(unittest.TestCase):
    def check(self, e, idle, calm, quiet, path=()):
        core = core_with(e)
        self.assertIs(is_idle(core, F, path), idle, e)
        self.assertIs(is_calm(core, F, path), calm, e)
        self.assertIs(is_quiet(core, F, path), quiet, e)

    def test_calm_ones(self):
        for e in ("1", "p", "(add p 1)", "(sub p 1)", "(mul p 1)", "(less p 1)", "(same p 1)", "(not p)", "(size p)",
                  "(row)", "(row p 1)", "(new r p)", "(let x 1 x)", "(var v 1 (set v (add v 1)))", "(do 1 2)",
                  "(if p 1 2)", "(each i p i)", "(fun (x) x)", "(idle p)", "(keeps p)", "(last 1)", "(later 1)"):
            self.check(e, True, True, True)

    def test_restless_ones(self):
        for e in ("(say 1)", "(fault bad)", "(while 0 1)", "(apply p)", "(get r a p)", "(div 1 1)", "(at p 0)",
                  "(far 1)", "(says 1)", "(callsays 1)", "(callsfar 1)", "(lateron 1)", "(verylast 1)"):
            self.check(e, False, False, False)
            for around in ("(add 1 {})", "(do {} 1)", "(if {} 1 2)", "(if 1 2 {})", "(let x {} x)", "(let x 1 {})",
                           "(var x {} (set x 1))", "(var x 1 (set x {}))", "(each i {} 1)", "(each i 1 {})", "(row {})",
                           "(new r {})", "(idle {})", "(not {})"):
                self.check(around.format(e), False, False, False)
            self.check(f"(fun () {e})", True, True, True)
            self.check(f"(do (fun (x) (fun () {e})) 1)", True, True, True)
            # Within the fun it is asked as any other.
            self.check(f"(fun () {e})", False, False, False, (0,))

    def test_ops_that_are_none(self):
        core = core_with("(row (div 1 2) (at p 0) (mul 1 2))")
        self.assertEqual([is_idle(core, F, (number,)) for number in range(3)], [False, False, True])

    def test_outer_vars(self):
        e = "(var v 1 (do v (set v 2) (set v v) (let x v x) (say v) (fun () 1) (var w v (set w v)) (set v (say 1))))"
        for number, idle, calm, quiet in (
            (0, True, False, True), (1, False, False, True), (2, False, False, True), (3, True, False, True),
            (4, False, False, False), (5, True, True, True), (6, True, False, True), (7, False, False, False),
        ):
            self.check(e, idle, calm, quiet, (1, number))
        self.check(e, False, False, False, (1,))
        self.check(e, False, False, False)
        self.check("(var v 1 (set v 2))", True, True, True)
        self.check("(var v 1 (set v 2))", False, False, True, (1,))

    def test_truths(self):
        core = core_with("(var v 1 (do v (set v 1)))")
        for ask in (is_idle, is_calm, is_quiet):
            for path in ((), (1,), (1, 0), (1, 1)):
                self.assertIs(type(ask(core, F, path)), bool)

    def test_functions_before_and_behind(self):
        names = [f"f{sign}" for sign in "abcdefghij"]
        for last, idle in (("1", True), ("(say 1)", False), ("(fun () (say 1))", True)):
            forms = [f"(function {one} () ({other}))" for one, other in zip(names, names[1:])]
            forms.append(f"(function fj () {last})")
            for order in (forms, forms[::-1], forms[::2] + forms[1::2]):
                core = core_of(" ".join(order))
                self.assertEqual([is_idle(core, number, ()) for number in range(10)], [idle] * 10)

    def test_a_ring_with_a_deep_one(self):
        core = core_of("(function f () (g)) (deep g () (f)) (function h () (fun () (g))) (deep k () 1) (open m () (h))")
        self.assertEqual([is_idle(core, number, ()) for number in range(5)], [False, False, True, True, True])

    def test_deep_expressions(self):
        body = ("say", ("number", 1))
        calm = ("number", 1)
        for _ in range(300):
            body = ("op", "not", (body,))
            calm = ("let", 0, calm, ("name", 0))
        core = (canon(("deep", 0, body)), canon(("function", 0, calm))), (), ()
        self.assertFalse(is_idle(core, 0, ()))
        self.assertTrue(is_calm(core, 1, ()))
        self.assertTrue(is_calm(core, 1, (0,) * 300))


class Apart(unittest.TestCase):
    E = """(var v 1 (var w 2 (do
             v (set v 1) w (set w 1) (say 1) (set w (say 1)) (row v w) (fun () (say 1)) (say v) (set v w) 5)))"""
    V, SETV, W, SETW, SAY, SETWSAY, VW, FUN, SAYV, SETVW, FIVE = range(11)

    def test_pairs(self):
        core = core_with(self.E)
        apart = {
            (self.V, self.V), (self.V, self.W), (self.V, self.SETW), (self.V, self.SAY), (self.V, self.SETWSAY),
            (self.V, self.VW), (self.V, self.FUN), (self.V, self.SAYV), (self.V, self.FIVE),
            (self.SETV, self.W), (self.SETV, self.SETW), (self.SETV, self.SAY), (self.SETV, self.SETWSAY),
            (self.SETV, self.FUN), (self.SETV, self.FIVE),
            (self.W, self.W), (self.W, self.SAY), (self.W, self.VW), (self.W, self.FUN), (self.W, self.SAYV),
            (self.W, self.SETVW), (self.W, self.FIVE),
            (self.SETW, self.SAY), (self.SETW, self.FUN), (self.SETW, self.SAYV), (self.SETW, self.FIVE),
            (self.SAY, self.VW), (self.SAY, self.FUN), (self.SAY, self.SETVW), (self.SAY, self.FIVE),
            (self.SETWSAY, self.FUN), (self.SETWSAY, self.FIVE),
            (self.VW, self.VW), (self.VW, self.FUN), (self.VW, self.SAYV), (self.VW, self.FIVE),
            (self.FUN, self.FUN), (self.FUN, self.SAYV), (self.FUN, self.SETVW), (self.FUN, self.FIVE),
            (self.SAYV, self.FIVE), (self.SETVW, self.FIVE), (self.FIVE, self.FIVE),
        }
        for one in range(11):
            for other in range(11):
                wanted = (one, other) in apart or (other, one) in apart
                told = are_apart(core, F, (1, 1, one), (1, 1, other))
                self.assertIs(told, wanted, (one, other))

    def test_vars_bound_within_both(self):
        core = core_with("(do (var v 1 (set v 2)) (var v 1 (set v 3)) (var v 1 (set v (say 1))))")
        self.assertTrue(are_apart(core, F, (0,), (1,)))
        self.assertTrue(are_apart(core, F, (0,), (2,)))
        self.assertFalse(are_apart(core, F, (2,), (2,)))

    def test_handed_in_stays(self):
        core = core_with(self.E)
        ahead = repr(core)
        first = reads(core, F, (1, 1))
        first.append(99)
        sets(core, F, (1, 1)).clear()
        self.assertEqual((reads(core, F, (1, 1)), sets(core, F, (1, 1))), ([1, 2], [1, 2]))
        self.assertEqual(repr(core), ahead)


if __name__ == "__main__":
    unittest.main()
