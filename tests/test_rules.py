"""Steps at an expression: each rule where it is right, and each of its conditions broken alone."""

import unittest

from helpers import core_of, marked_program
from turnsame.cores import right_core
from turnsame.errors import NoStep, TurnError
from turnsame.reading import Read
from turnsame.rules import stepped

OTHERS = """
(record r a b)
(function idle (x) (add x 1))
(function says (x) (say x))
(function none () 7)
(deep far (x) x)
"""


class Steps(unittest.TestCase):
    """A step is told by a text with a mark ahead of its expression."""

    def asked(self, rule, text, more):
        program, place = marked_program(OTHERS + text)
        read = Read(program)
        return read.core(), (rule,) + read.node_at(*place) + more

    def right(self, rule, ahead, behind, *more):
        core, step = self.asked(rule, ahead, more)
        before = repr(core)
        told = stepped(core, step)
        self.assertEqual(told, core_of(OTHERS + behind), (rule, ahead))
        self.assertTrue(right_core(told))
        self.assertIs(type(told), tuple)
        self.assertEqual(repr(core), before)

    def wrong(self, rule, ahead, *more):
        core, step = self.asked(rule, ahead, more)
        with self.assertRaises(TurnError) as caught:
            stepped(core, step)
        self.assertIs(type(caught.exception), NoStep, (rule, ahead))

    def right_around(self, rule, ahead, behind, *more):
        """At the body itself, deep within it, within a fun; in a function that others stand around."""
        for around in (
            "(open f (p q) {})",
            "(open f (p q) (let z 1 (do z (if z (add {} p) (let y z y)) (each w (row z) w))))",
            "(open e (p) (say p)) (deep f (p q) (let w 1 (fun (z) (add w {})))) (open g () (let a 1 a))",
        ):
            self.right(rule, around.replace("{}", ahead), around.replace("{}", behind), *more)


class Unfold(Steps):
    def test_without_params(self):
        self.right_around("unfold", "@(none)", "7")
        self.right("unfold", "(open f () @(g)) (function g () (let x 1 x))",
                   "(open f () (let x 1 x)) (function g () (let x 1 x))")

    def test_with_params(self):
        self.right_around("unfold", "@(idle p)", "(let x p (add x 1))")
        self.right_around("unfold", "@(idle (say q))", "(let x (say q) (add x 1))")
        g = "(function g (a b c d) (row d c b a d))"
        self.right("unfold", f"{g} (open f (p) @(g 1 p (say 3) 4))",
                   f"{g} (open f (p) (let a 1 (let b p (let c (say 3) (let d 4 (row d c b a d))))))")

    def test_params_that_stand_nowhere(self):
        g = "(function g (a b) a)"
        self.right("unfold", f"{g} (open f () @(g 1 (say 2)))", f"{g} (open f () (let a 1 (let b (say 2) a)))")

    def test_with_binders(self):
        g = "(function g (a b) (let x a (var y b (each z (row x) (do (set y z) (fun (a c) (add a (add c x))))))))"
        body = g.replace("(function g (a b) ", "")[:-1]
        self.right("unfold", f"(open f (x y) (let z x (add z @(g z (let a y a))))) {g}",
                   f"(open f (x y) (let z x (add z (let a z (let b (let a y a) {body}))))) {g}")
        # The things stand outside of what the lets ahead of them bind.
        self.right("unfold", f"{g} (open f (x a) (let b x @(g b (add a b))))",
                   f"{g} (open f (x a) (let b x (let one b (let b (add a b) {body.replace('(let x a ', '(let x one ')}))))")

    def test_within_its_own_things(self):
        self.right("unfold", "(open f () @(idle (idle 1)))", "(open f () (let x (idle 1) (add x 1)))")
        self.right("unfold", "(open f () (idle @(idle 1)))", "(open f () (idle (let x 1 (add x 1))))")

    def test_at_a_call_within_a_fun(self):
        self.right("unfold", "(open f (p) (fun (a) @(says (add a p))))", "(open f (p) (fun (a) (let x (add a p) (say x))))")
        g = "(function g (a) (var v a (set v 1)))"
        self.right("unfold", f"{g} (open f () (var v 1 (fun () @(g 1))))",
                   f"{g} (open f () (var v 1 (fun () (let a 1 (var v a (set v 1))))))")

    def test_a_function_that_calls(self):
        self.right("unfold", "(function g (a) (idle (says a))) (open f () @(g 1))",
                   "(function g (a) (idle (says a))) (open f () (let a 1 (idle (says a))))")
        self.right("unfold", "(deep h (a) @(g a)) (function g (a) (h a))", "(deep h (a) (let a a (h a))) (function g (a) (h a))")

    def test_of_an_open_one(self):
        # No right core has such a call; it is no call of a "function" either.
        core = (("open", 0, ("number", 1)), ("deep", 0, ("call", 0, ()))), (), (("f", 0),)
        self.assertRaises(NoStep, stepped, core, ("unfold", 1, ()))

    def test_wrong(self):
        self.wrong("unfold", "(open f () @(far 1))")
        self.wrong("unfold", "(deep f () @(f))")
        for e in ("@1", "@p", "@(let x 1 (none))", "@(do (none))", "@(apply (fun () (none)))", "@(say (none))",
                  "(fun () (add @1 (none)))", "@(new r 1 2)"):
            self.wrong("unfold", f"(open f (p) {e})")


class Spread(Steps):
    def test_calm_things(self):
        self.right_around("spread", "@(let x 5 (add x x))", "(add 5 5)")
        self.right_around("spread", "@(let x p (fun () (add x p)))", "(fun () (add p p))")
        self.right_around("spread", "@(let x (idle p) x)", "(idle p)")
        self.right_around("spread", "@(let x (fun (a) (say a)) (apply x (apply x 1)))",
                          "(apply (fun (a) (say a)) (apply (fun (a) (say a)) 1))")

    def test_a_name_that_stands_nowhere_once_often(self):
        self.right_around("spread", "@(let x (row 1 2) (say 3))", "(say 3)")
        self.right_around("spread", "@(let x (row 1 2) (say (at x 1)))", "(say (at (row 1 2) 1))")
        self.right_around("spread", "@(let x (row 1 2) (do (at x 1) (while x x) x))",
                          "(do (at (row 1 2) 1) (while (row 1 2) (row 1 2)) (row 1 2))")

    def test_things_with_binders_are_told_often(self):
        thing = "(let a 1 (each b (row a) (var v b (do (set v a) (fun (a b) (add a b))))))"
        self.right_around("spread", f"@(let x {thing} (let y x (row x y (let a x a))))",
                          f"(let y {thing} (row {thing} y (let a {thing} a)))")

    def test_other_names_of_the_same_name_stay(self):
        self.right_around("spread", "@(let x 5 (let x (add x 1) x))", "(let x (add 5 1) x)")
        self.right_around("spread", "@(let x 5 (row x (let x x (fun (x) x))))", "(row 5 (let x 5 (fun (x) x)))")

    def test_names_of_the_thing_that_are_bound_again_within(self):
        self.right_around("spread", "@(let x (add p 1) (let p 2 (row x p)))", "(let y 2 (row (add p 1) y))")

    def test_idle_things(self):
        self.right("spread", "(open f () (var v 1 @(let x (add v 1) (do (say x) x))))",
                   "(open f () (var v 1 (do (say (add v 1)) (add v 1))))")
        self.right("spread", "(open f () (var v 1 (var w 2 @(let x v (do (set w x) (fun () 1) x)))))",
                   "(open f () (var v 1 (var w 2 (do (set w v) (fun () 1) v))))")
        # Vars bound within the thing or within the body are none that the thing reads from outside.
        self.right("spread", "(open f () (var v 1 @(let x (var w v (set w v)) (var v x (set v x)))))",
                   "(open f () (var v 1 (var z (var w v (set w v)) (set z (var w v (set w v))))))")
        # A var that is set outside of the body.
        self.right("spread", "(open f () (var v 1 (do (set v 2) @(let x v x) (set v 3))))",
                   "(open f () (var v 1 (do (set v 2) v (set v 3))))")

    def test_idle_things_whose_vars_are_set(self):
        for body in ("(do (set v 2) x)", "(do x (set v 2))", "(set v x)", "(say (set v 1))", "(let y (set v 1) y)"):
            self.wrong("spread", f"(open f () (var v 1 @(let x (add v 1) {body})))")
            self.wrong("spread", f"(open f () (var w 2 (var v 1 @(let x (add w v) {body}))))")
            # Of a calm thing it is no matter.
            self.right("spread", f"(open f () (var v 1 @(let x 9 {body})))", f"(open f () (var v 1 {body.replace('x', '9')}))")

    def test_idle_things_whose_name_stands_in_a_fun(self):
        for body in ("(fun () x)", "(do x (fun (y) (fun () (add y x))))", "(apply (fun (y) x) 1)"):
            self.wrong("spread", f"(open f () (var v 1 @(let x (add v 1) {body})))")
            self.right("spread", f"(open f () (var v 1 @(let x 9 {body})))", f"(open f () (var v 1 {body.replace('x', '9')}))")
        self.right("spread", "(open f () (var v 1 @(let x v (do x (fun (x) x)))))", "(open f () (var v 1 (do v (fun (x) x))))")

    def test_things_that_are_not_idle(self):
        for thing in ("(say 1)", "(fault bad)", "(far 1)", "(says 1)", "(div 1 1)", "(at p 0)", "(get r a p)", "(apply p)",
                      "(while 0 1)", "(set v 1)", "(add 1 (say 1))"):
            self.wrong("spread", f"(open f (p) (var v 1 @(let x {thing} x)))")
            self.wrong("spread", f"(open f (p) (var v 1 @(let x {thing} 1)))")

    def test_other_sorts(self):
        for e in ("@(var x 1 x)", "@(each x 1 x)", "@x", "@(fun (x) x)", "@(do (let x 1 x))", "@1", "@(idle 1)"):
            self.wrong("spread", f"(open f (x) {e})")


class Now(Steps):
    FIRST = ("x", "(add x 1)", "(add x (say 1))", "(row x 1 2)", "(not x)", "(size x)", "(new r x 1)", "(idle x)", "(far x)",
             "(apply x)", "(apply x 1)", "(do x)", "(do x (say 1))", "(if x 1 2)", "(let y x y)", "(var y x (set y 1))",
             "(each y x y)", "(say x)", "(get r a x)", "(div x 0)", "(at x 0)")
    # Behind calm things.
    BEHIND = ("(add 1 x)", "(row 1 p (idle 2) x (say 1))", "(new r (fun () (say 1)) x)", "(apply p x)",
              "(apply (fun (y) y) x)", "(apply p 1 x)", "(two (row) x)", "(at (row 1 2) x)", "(sub (let y 1 y) (say x))",
              "(add (row (var y 1 (set y 2))) x)")

    def both(self, e, thing="(say 5)"):
        two = "(function two (a b) (add a b))"
        body = e.replace(" x", " " + thing) if e != "x" else thing
        self.right_around("now", f"@(let x {thing} {e})", body)
        self.right("now", f"{two} (open f (p) @(let x {thing} {e}))", f"{two} (open f (p) {body})")

    def refused(self, e, thing="(say 5)"):
        self.wrong("now", f"(function two (a b) (add a b)) (open f (p) (var v 1 @(let x {thing} {e})))")

    def test_each_sort_that_has_a_first_place(self):
        for e in self.FIRST:
            self.both(e)
        self.right("now", "(open f () (var v 1 @(let x (say 5) (set v x))))", "(open f () (var v 1 (set v (say 5))))")

    def test_behind_calm_things(self):
        for e in self.BEHIND:
            if "two" not in e:
                self.both(e)
        two = "(function two (a b) (add a b))"
        self.right("now", f"{two} (open f () @(let x (say 1) (two (row) x)))", f"{two} (open f () (two (row) (say 1)))")

    def test_deep_first_places(self):
        self.both("(do (if (add 1 (say (not (idle x)))) 1 2) (say 1))")
        self.both("(let y (each z (new r (row) (get r b x)) z) y)")
        self.both("(row 1 (add 2 (row 3 (row 4 x) (say 6))) (say 7))")

    def test_each_sort_that_has_none(self):
        for e in ("(while x 1)", "(while 1 x)", "(fun () x)", "(fun (y) x)", "7", "(fault bad)", "p"):
            self.refused(e)
        self.refused("(add (while x 1) 2)")
        self.refused("(add (fun () x) 2)")

    def test_not_at_the_first_child(self):
        for e in ("(do 1 x)", "(if 1 x 2)", "(if 1 2 x)", "(let y 1 x)", "(var y 1 x)", "(each y 1 x)"):
            self.refused(e)
            # Of a calm thing, too, it is not the first place.
            self.refused(e, "5")
            self.refused(f"(add 1 {e})")

    def test_behind_things_that_are_not_calm(self):
        for thing in ("(say 1)", "v", "(set v 1)", "(far 1)", "(says 1)", "(div 1 1)", "(add 1 v)", "(apply p)"):
            for e in ("(add {} x)", "(row 1 {} x)", "(new r {} x)", "(apply {} x)", "(apply p {} x)", "(two {} x)"):
                self.refused(e.format(thing))
                self.refused(e.format(thing), "5")

    def test_a_name_that_does_not_stand_just_once(self):
        for e in ("(add x x)", "(do x x)", "(row x (fun () x))", "(if x 1 x)", "1", "(let x 1 x)", "(fun (x) x)", "(say 1)"):
            self.refused(e)
            self.refused(e, "5")

    def test_names_behind_are_no_matter(self):
        self.both("(add x (add p (say p)))")
        self.both("(let x x (add x x))".replace("(let x x (add x x))", "(let y x (add y y))"))

    def test_things_of_all_sorts(self):
        for thing in ("(fault bad)", "(let a 1 (let b a b))", "(while p 1)", "(far 1)", "(apply p)", "(fun (a) (add a p))", "p"):
            self.both("(add 1 (add x (let a 1 a)))", thing)
        self.right("now", "(open f () (var v 1 @(let x (set v 2) (add x v))))", "(open f () (var v 1 (add (set v 2) v)))")
        self.right("now", "(open f () (var v 1 @(let x v (add x (set v 3)))))", "(open f () (var v 1 (add v (set v 3))))")

    def test_other_sorts(self):
        for e in ("@(var x (say 1) x)", "@(each x 1 x)", "@x", "@(do (let x 1 x))", "@(add x 1)"):
            self.wrong("now", f"(open f (x) {e})")


class Flip(Steps):
    def test_right(self):
        self.right_around("flip", "@(if (not p) 1 2)", "(if p 2 1)")
        self.right_around("flip", "@(if (not (not (say p))) (let x 1 x) (let y 2 (say y)))",
                          "(if (not (say p)) (let y 2 (say y)) (let x 1 x))")
        self.right_around("flip", "@(if (not (let a 1 a)) (fault one) (fault other))", "(if (let a 1 a) (fault other) (fault one))")

    def test_wrong(self):
        for e in ("@(if p 1 2)", "@(if (size p) 1 2)", "@(if (add 1 2) 1 2)", "@(if (row (not 1)) 1 2)", "@(not 1)",
                  "@(do (if (not 1) 2 3))", "@(while (not 1) 2)", "@(if (do (not 1)) 2 3)", "@p", "(if @(not 1) 2 3)"):
            self.wrong("flip", f"(open f (p) {e})")


class Flat(Steps):
    def test_one_thing_alone(self):
        self.right_around("flat", "@(do p)", "p")
        self.right_around("flat", "@(do (let x 1 x))", "(let x 1 x)")
        self.right_around("flat", "@(do (say (do 1 2)))", "(say (do 1 2))")

    def test_dos_among_the_things(self):
        self.right_around("flat", "@(do (do 1 2) 3)", "(do 1 2 3)")
        self.right_around("flat", "@(do 1 (do (say 2) 3))", "(do 1 (say 2) 3)")
        self.right_around("flat", "@(do (do 1) (do (say 2) p) q (do 3 4))", "(do 1 (say 2) p q 3 4)")
        self.right_around("flat", "@(do (do 1 2))", "(do 1 2)")
        self.right_around("flat", "@(do (do 1) 2)", "(do 1 2)")

    def test_once_and_no_deeper(self):
        self.right_around("flat", "@(do (do (do 1 2) 3) 4)", "(do (do 1 2) 3 4)")
        self.right_around("flat", "@(do 0 (do (do 1)))", "(do 0 (do 1))")
        self.right_around("flat", "@(do (do (do 1 2)))", "(do 1 2)")
        self.right_around("flat", "@(do (do (do (do 1))))", "(do (do 1))")
        self.right_around("flat", "@(do (do 1))", "1")
        self.right_around("flat", "@(do 1 (say (do (do 2))) (do 3))", "(do 1 (say (do (do 2))) 3)")

    def test_wrong(self):
        for e in ("@(do 1 2)", "@(do 1 (say (do 2 3)) 4)", "@(row (do 1))", "@1", "@p", "@(let x (do 1) x)", "@(none)"):
            self.wrong("flat", f"(open f (p) {e})")


class Drop(Steps):
    def test_right(self):
        self.right_around("drop", "@(do 1 2)", "(do 2)", 0)
        self.right_around("drop", "@(do (let x 1 x) (say 2) (let y 3 y))", "(do (say 2) (let y 3 y))", 0)
        self.right_around("drop", "@(do (say 1) (idle p) (say 3))", "(do (say 1) (say 3))", 1)
        self.right_around("drop", "@(do (fun () (say 1)) p)", "(do p)", 0)
        self.right("drop", "(open f () (var v 1 @(do v (add v 1) (set v 2) v)))", "(open f () (var v 1 (do v (set v 2) v)))", 1)

    def test_the_last_one_and_beyond(self):
        for k in (2, 3, 4, 1000, 10 ** 39):
            self.wrong("drop", "(open f (p) @(do 1 2 3))", k)
        self.wrong("drop", "(open f (p) @(do 1))", 0)

    def test_things_that_are_not_idle(self):
        for thing in ("(say 1)", "(set v 1)", "(fault bad)", "(far 1)", "(says 1)", "(div 1 1)", "(while 0 0)",
                      "(if p (say 1) 2)", "(get r a p)", "(at p 0)", "(apply p)"):
            self.wrong("drop", f"(open f (p) (var v 1 @(do {thing} 2)))", 0)

    def test_other_sorts(self):
        for e in ("@(row 1 2 3)", "@1", "@(idle (do 1 2))", "@(let x 1 (do 1 2))", "@(apply 1 2 3)"):
            self.wrong("drop", f"(open f (p) {e})", 0)


class Swap(Steps):
    def test_right(self):
        self.right_around("swap", "@(do 1 2 3)", "(do 2 1 3)", 0)
        self.right_around("swap", "@(do (let x 1 x) (say 2) p)", "(do (say 2) (let x 1 x) p)", 0)
        self.right_around("swap", "@(do 0 (say (let x 1 x)) (each y p (let z y z)) 3)",
                          "(do 0 (each y p (let z y z)) (say (let x 1 x)) 3)", 1)
        for one, other in (("(set v 1)", "(set w 1)"), ("v", "(say v)"), ("(set v (say 1))", "w"), ("(set v w)", "(say w)"),
                           ("(fault bad)", "(set w v)"), ("(far v)", "(add v w)")):
            self.right("swap", f"(open f () (var v 1 (var w 2 @(do {one} {other} 3))))",
                       f"(open f () (var v 1 (var w 2 (do {other} {one} 3))))", 0)
            self.right("swap", f"(open f () (var v 1 (var w 2 @(do {other} {one} 3))))",
                       f"(open f () (var v 1 (var w 2 (do {one} {other} 3))))", 0)

    def test_not_apart(self):
        for one, other in (("(set v 1)", "v"), ("(set v 1)", "(set v 2)"), ("(say 1)", "(say 2)"), ("(set v w)", "(set w 1)"),
                           ("(far 1)", "(fault bad)"), ("(div 1 1)", "(says 1)"), ("(set v (say 1))", "(say v)")):
            for first, second in ((one, other), (other, one)):
                self.wrong("swap", f"(open f () (var v 1 (var w 2 @(do {first} {second} 3))))", 0)

    def test_the_last_one_and_beyond(self):
        for k in (1, 2, 3, 1000, 10 ** 39):
            self.wrong("swap", "(open f () @(do 1 2 3))", k)
        self.wrong("swap", "(open f () @(do 1 2))", 0)
        self.wrong("swap", "(open f () @(do 1))", 0)

    def test_other_sorts(self):
        for e in ("@(row 1 2 3)", "@p", "@(if 1 2 3)", "@(say (do 1 2 3))"):
            self.wrong("swap", f"(open f (p) {e})", 0)


class Part(Steps):
    def test_right(self):
        self.right_around("part", "@(each x p (do x (say x)))", "(do (each x p (do x)) (each x p (do (say x))))", 1)
        es = ("(say x)", "(let y x y)", "p", "x")
        for k in (1, 2, 3):
            one, other = " ".join(es[:k]), " ".join(es[k:])
            self.right_around("part", f"@(each x (row 1 p) (do {one} {other}))",
                              f"(do (each x (row 1 p) (do {one})) (each x (row 1 p) (do {other})))", k)

    def test_things_with_binders(self):
        thing = "(let a (row 1) (var v a (do (set v p) v)))"
        self.right_around("part", f"@(each x {thing} (do (let x x x) (each y x (say x))))",
                          f"(do (each x {thing} (do (let x x x))) (each x {thing} (do (each y x (say x)))))", 1)

    def test_vars(self):
        for thing, one, other in (("v", "(set w x)", "(say x)"), ("(row v)", "(say v)", "(set w v)"), ("1", "(set v 1)", "(set w 1)"),
                                  ("1", "(set v (say v))", "(set w (add w 1))"), ("w", "(say w)", "(set v w)")):
            self.right("part", f"(open f () (var v 1 (var w 2 @(each x {thing} (do {one} {other})))))",
                       f"(open f () (var v 1 (var w 2 (do (each x {thing} (do {one})) (each x {thing} (do {other}))))))", 1)

    def test_k(self):
        for k in (0, 3, 4, 1000):
            self.wrong("part", "(open f (p) @(each x p (do 1 2 3)))", k)
        self.wrong("part", "(open f (p) @(each x p (do 1)))", 0)
        self.wrong("part", "(open f (p) @(each x p (do 1)))", 1)

    def test_a_thing_that_is_not_idle(self):
        for thing in ("(say p)", "(set v 1)", "(far p)", "(says p)", "(at p 0)", "(fault bad)", "(apply p)"):
            self.wrong("part", f"(open f (p) (var v 1 @(each x {thing} (do 1 2))))", 1)

    def test_a_thing_whose_vars_are_set(self):
        for one, other in (("(set v 1)", "2"), ("1", "(set v 2)"), ("(say x)", "(let y (set v 1) y)")):
            self.wrong("part", f"(open f () (var v 1 (var w 2 @(each x (row w v) (do {one} {other})))))", 1)

    def test_not_apart(self):
        for one, other in (("(say x)", "(say x)"), ("(set v 1)", "v"), ("v", "(set v x)"), ("(set v 1)", "(set v 2)"),
                           ("(far x)", "(div 1 x)")):
            self.wrong("part", f"(open f (p) (var v 1 @(each x p (do {one} {other}))))", 1)
            self.wrong("part", f"(open f (p) (var v 1 @(each x p (do 1 {one} {other} 2))))", 2)
            # All on one side of k, they are no matter.
            for k in (1, 3):
                self.right("part", f"(open f (p) (var v 1 @(each x p (do 1 {one} {other} 2))))",
                           "(open f (p) (var v 1 (do (each x p (do 1)) (each x p (do {} {} 2)))))".format(one, other) if k == 1 else
                           f"(open f (p) (var v 1 (do (each x p (do 1 {one} {other})) (each x p (do 2)))))", k)

    def test_other_sorts(self):
        for e in ("@(each x p (row 1 2))", "@(each x p x)", "@(let x p (do 1 2))", "@(var x p (do 1 2))", "@(do 1 2)",
                  "@(while p (do 1 2))", "@(each x (do 1 2) (say (do 1 2)))"):
            self.wrong("part", f"(open f (p) {e})", 1)


if __name__ == "__main__":
    unittest.main()
