"""Calls put in place."""

import unittest

from helpers import program_of
from turnings import Turnings
from turnsame.inplace import put_in_place
from turnsame.tokens import tokens_of


class InPlace(Turnings):
    def right(self, step, *texts_and_behind):
        """Texts, then as many as they are once more, behind the turning; step is the function and the path."""
        many = len(texts_and_behind) // 2
        paper = self.turned(put_in_place, texts_and_behind[:many], (), texts_and_behind[many:])
        self.assertEqual(paper[:2], ((("unfold",) + step,), ()))
        self.assertEqual(paper[4], ())

    def wrong(self, word, *texts):
        self.refused(put_in_place, texts, (), word)


class Told(InPlace):
    def test_no_param(self):
        self.right((0, (0,)), "(open m () (say @(f))) (function f () (add 1 2))", "(open m () (say (add 1 2))) (function f () (add 1 2))")
        self.right((1, ()), "(function f () 7) (open m () @(f))", "(function f () 7) (open m () 7)")

    def test_one_param(self):
        self.right((1, (0,)), "(function f (x) (add x x)) (open m (y) (say @(f (say y))))",
                   "(function f (x) (add x x)) (open m (y) (say (let x (say y) (add x x))))")

    def test_several_params(self):
        self.right((1, ()), "(function f (a b c d) (row d a)) (open m (y) @(f 1 (say 2) y (row y)))",
                   "(function f (a b c d) (row d a)) (open m (y) (let a 1 (let b (say 2) (let c y (let d (row y) (row d a))))))")

    def test_binders_and_funs_of_its_own(self):
        self.right((1, (0,)), "(function f (x) (let y x (var v y (each z (row v) (do (set v z) (fun (x) (add x z))))))) (open m (v) (say @(f v)))",
                   "(function f (x) (let y x (var v y (each z (row v) (do (set v z) (fun (x) (add x z))))))) (open m (v) (say "
                   "(let x v (let y x (var v y (each z (row v) (do (set v z) (fun (x) (add x z)))))))))")

    def test_within_a_calls_thing_and_a_fun(self):
        self.right((1, (0,)), "(function f (x) (say x)) (open m () (f @(f 1)))", "(function f (x) (say x)) (open m () (f (let x 1 (say x))))")
        self.right((1, ()), "(function f (x) (say x)) (open m () @(f (f 1)))", "(function f (x) (say x)) (open m () (let x (f 1) (say x)))")
        self.right((1, (0, 0)), "(function f (x) (var v x (set v 2))) (open m (p) (apply (fun (q) @(f (add p q))) 1))",
                   "(function f (x) (var v x (set v 2))) (open m (p) (apply (fun (q) (let x (add p q) (var v x (set v 2)))) 1))")

    def test_of_another_part(self):
        self.right((0, ()), "(open m () @(f 3)) ; tail", "(record r a) (function g () 1) (function f (x) (new r (g)))",
                   "(open m () (let x 3 (new r (g)))) ; tail", "(record r a) (function g () 1) (function f (x) (new r (g)))")

    def test_by_and_of_other_heads(self):
        self.right((0, ()), "(deep m (x) @(f x)) (function f (y) (m y))", "(deep m (x) (let y x (m y))) (function f (y) (m y))")
        self.right((0, ()), "(function g (x) @(f x)) (function f (y) (say y))", "(function g (x) (let y x (say y))) (function f (y) (say y))")

    def test_names_alike(self):
        # The first param's let binds nothing in its own thing, and others of a like name are bound in the thing itself.
        self.right((1, ()), "(function f (x y) (add x y)) (open m (x) @(f x 2))", "(function f (x y) (add x y)) (open m (x) (let x x (let y 2 (add x y))))")
        self.right((1, ()), "(function f (x y) (add x y)) (open m (p) @(f p (let x p (fun (x) x))))",
                   "(function f (x y) (add x y)) (open m (p) (let x p (let y (let x p (fun (x) x)) (add x y))))")
        self.right((1, ()), "(function f (x y) (add x y)) (open m (y) @(f y 1))", "(function f (x y) (add x y)) (open m (y) (let x y (let y 1 (add x y))))")

    def test_gaps(self):
        self.right((1, (0,)), "(function f( ; none\n x y ; body\n )(add ; one\n x\n y) ; end\n)(open m()(say ; here\n @(f ; gone\n (row  1) ; gone\n 2) ; kept\n))",
                   "(function f( ; none\n x y ; body\n )(add ; one\n x\n y) ; end\n)(open m()(say ; here\n (let x (row  1) (let y 2 (add ; one\n x\n y))) ; kept\n))")

    def test_two_words_that_would_run_into_one(self):
        program = program_of("(function f()7)(open m()(row(f)(f)8))")
        edits, paper = put_in_place(program, 0, 17)
        self.assertEqual(edits, [(0, 17, 4, "7 8")])
        self.assertEqual(self.sound(program, edits, paper)[0][1], "(function f()7)(open m()(row(f)7 8))")
        edits, paper = put_in_place(program, 0, 14)
        self.assertEqual(edits, [(0, 14, 3, " 7")])
        self.assertEqual(self.sound(program, edits, paper)[0][1], "(function f()7)(open m()(row 7(f)8))")


class Refused(InPlace):
    def test_no_call(self):
        for text in ("@(open m (x) 1)", "(open @m (x) 1)", "(function f () 1) (open m () (@f))", "(function f (x) 1) (open m () (f @1))", "(function @f () 1)",
                     "(open m () @(say 1))", "(open m () @(apply 1))", "(record r a) (open m () @(new r 1))", "(function f () 1) (open m () (f @))"):
            self.wrong("name", text)
        program = program_of("(deep f () (f))", "")
        for place in ((0, -1), (0, 9), (-1, 5), (1, 0), (2, 5), (0, 1000), (10 ** 39, 5), (0, -10 ** 39)):
            self.refused_at(put_in_place, program, place, (), "name", place)

    def test_deep(self):
        self.wrong("deep", "(deep f () @(f))")
        self.wrong("deep", "(open m () (say @(f 1)))", "(deep f (x) x)")
        # Ahead of shade.
        self.wrong("deep", "(deep f (x y) x) (open m (x) @(f 1 x))")

    def test_shade_of_a_local(self):
        self.wrong("shade", "(function f (x y) x) (open m (x) @(f 1 ^x))")
        self.wrong("shade", "(function f (x y z) x) (open m (x y) @(f y (add 1 2) (add (add ^y x) y)))")
        self.wrong("shade", "(function f (x y) x) (open m (p) (let x 1 @(f x (let y ^x (let x 2 x)))))")
        self.wrong("shade", "(function f (x y) x) (open m (p) (var x 1 @(f x (set ^x 2))))")
        self.wrong("shade", "(function f (x y) x) (open m (x) @(f x (fun () ^x)))")

    def test_shade_of_a_function(self):
        self.wrong("shade", "(function g () 1) (open m () @(f))", "(function g () 2) (function f () (add 1 (^g)))")
        # An open one of the name is another one, too.
        self.wrong("shade", "(open g () 1) (open m () @(f))", "(function g () 2) (function f () (fun () (^g)))")
        # One of a part that is ahead of that of the body.
        self.wrong("shade", "(function g () 1)", "(open m () @(f))", "(function g () 2) (function f () (^g))")
        self.right((1, ()), "(function g () 1)", "(open m () @(f))", "(function f () (g))", "(function g () 1)", "(open m () (g))", "(function f () (g))")

    def test_shade_of_a_record(self):
        self.wrong("shade", "(record r a) (open m () @(f))", "(record r a) (function f () (new ^r 1))")
        self.wrong("shade", "(record r a) (open m () @(f 1))", "(record r a) (function f (x) (get ^r a x))")
        # A function of the name is none.
        self.right((1, ()), "(function r () 1) (open m () @(f))", "(record r a) (function f () (new r 1))",
                   "(function r () 1) (open m () (new r 1))", "(record r a) (function f () (new r 1))")

    def test_shade_at_the_least_place(self):
        self.wrong("shade", "(record r a) (function g () 1) (open m (x) @(f 1 (add ^x x)))", "(record r a) (function g () 2) (function f (x y) (add (g) (new r 1)))")
        self.wrong("shade", "(record r a) (function g () 2) (function f (x y) (add (new ^r 1) (g)))", "(record r a) (function g () 1) (open m (x) @(f 1 x))")
        self.wrong("shade", "(record r a) (function g () 2) (function f (x y) (add (^g) (new r 1)))", "(record r a) (function g () 1) (open m (x) @(f 1 x))")

    def test_many_tokens(self):
        for many in (491, 492):
            ones = "1 " * many
            text = f"(function f () (do {ones})) (open m () @(f))"
            told = f"(function f () (do {ones})) (open m () (do {ones}))"
            self.assertEqual(len(tokens_of(told)[0]), 1000 if many == 491 else 1002)
            if many == 491:
                self.right((1, ()), text, told)
            else:
                self.wrong("many", text)

    def test_many_signs(self):
        for more in (0, 1):
            told = "(function f () (add 1 2)) (open m () (add 1 2))"
            tail = ";" * (20000 - len(told) + more)
            text = "(function f () (add 1 2)) (open m () @(f))" + tail
            if more:
                self.wrong("many", text)
            else:
                self.right((1, ()), text, told + tail)

    def test_many_brackets(self):
        for more in (0, 1):
            body = "(not " * 30 + "1" + ")" * 30
            ahead, behind = "(not " * (28 + more), ")" * (28 + more)
            text = f"(function f (x) {body}) (open m () {ahead}@(f 2){behind})"
            if more:
                self.wrong("many", text)
            else:
                self.right((1, (0,) * 28), text, f"(function f (x) {body}) (open m () {ahead}(let x 2 {body}){behind})")

    def test_many_expressions(self):
        parts = [f"(open {name} () (do {'1 ' * 979}))" for name in "abcd"]
        for many in (38, 39):
            body = "(do " + "1 " * many + ")"
            text = f"(function f () {body}) (open m () (say @(f)))"
            if 4 * 980 + 2 * (many + 1) + 1 <= 4000:
                self.right((5, (0,)), *parts, text, *parts, f"(function f () {body}) (open m () (say {body}))")
            else:
                self.wrong("many", *parts, text)


if __name__ == "__main__":
    unittest.main()
