"""Pieces drawn out into functions."""

import unittest

from helpers import program_of
from turnings import Turnings
from turnsame.drawing import drawn


class Drawing(Turnings):
    def right(self, name, back, *texts_and_behind):
        """Texts, then as many as they are once more, behind the turning; back tells function, path and count of params."""
        many = len(texts_and_behind) // 2
        paper = self.turned(drawn, texts_and_behind[:many], (name,), texts_and_behind[many:])
        function, path, count = back
        steps = (("unfold", function, path),) + (("spread", function, path),) * count + (("lose", function + 1),)
        self.assertEqual(paper[:2], ((), steps))
        self.assertEqual(paper[4], ())

    def wrong(self, word, name, *texts):
        self.refused(drawn, texts, (name,), word)


class Told(Drawing):
    def test_no_local(self):
        self.right("g", (0, (1,), 0), "(open m (x) (add x @(say 1)))", "(open m (x) (add x (g)))\n(function g () (say 1))")
        self.right("g", (0, (0,), 0), "(open m () (say @1))", "(open m () (say (g)))\n(function g () 1)")

    def test_one_local(self):
        self.right("g", (0, (0,), 1), "(open m (x y) (add @(say y) x))", "(open m (x y) (add (g y) x))\n(function g (y) (say y))")
        self.right("g", (0, (0,), 1), "(open m (x) (add @x 1))", "(open m (x) (add (g x) 1))\n(function g (x) x)")

    def test_several_locals_in_the_order_of_their_first_places(self):
        self.right("g", (0, (0,), 3), "(open m (a b c) (say @(add (sub c a) (mul a (add b c)))))",
                   "(open m (a b c) (say (g c a b)))\n(function g (c a b) (add (sub c a) (mul a (add b c))))")
        self.right("g", (0, (), 4), "(open m (a b c d) @(row d c b a d))", "(open m (a b c d) (g d c b a))\n(function g (d c b a) (row d c b a d))")

    def test_locals_bound_within(self):
        self.right("g", (0, (), 1), "(open m (a) @(let b a (add a b)))", "(open m (a) (g a))\n(function g (a) (let b a (add a b)))")
        # One of the name outside, too: meant ahead of the inner one.
        self.right("g", (0, (1,), 1), "(open m (a) (let b 1 @(let b b (each c (row b) (fun (d) d)))))",
                   "(open m (a) (let b 1 (g b)))\n(function g (b) (let b b (each c (row b) (fun (d) d))))")
        # Shaded all over.
        self.right("g", (0, (1,), 0), "(open m (a) (let b 1 @(let b 2 b)))", "(open m (a) (let b 1 (g)))\n(function g () (let b 2 b))")

    def test_all_sorts_of_locals(self):
        self.right("g", (0, (1, 1, 1), 4), "(open m (p) (let l 1 (var v 2 (each e (row 1 2) @(say (row p l v e))))))",
                   "(open m (p) (let l 1 (var v 2 (each e (row 1 2) (g p l v e)))))\n(function g (p l v e) (say (row p l v e)))")

    def test_a_whole_body(self):
        self.right("g", (0, (), 1), "(deep m (x) @(m (add x 1))) (open n () 1)", "(deep m (x) (g x))\n(function g (x) (m (add x 1))) (open n () 1)")
        self.right("g", (1, (), 0), "(open n () 1) (open m () @2)", "(open n () 1) (open m () (g))\n(function g () 2)")

    def test_within_a_fun(self):
        self.right("g", (0, (0, 0), 2), "(open m (x) (apply (fun (y) @(add x y)) 1))",
                   "(open m (x) (apply (fun (y) (g x y)) 1))\n(function g (x y) (add x y))")
        self.right("g", (0, (0, 0, 1), 1), "(open m (x) (apply (fun () (var v 1 @(add v v)))))",
                   "(open m (x) (apply (fun () (var v 1 (g v)))))\n(function g (v) (add v v))")

    def test_with_a_fun(self):
        self.right("g", (0, (), 1), "(open m (x) @(fun (y) (add x y)))", "(open m (x) (g x))\n(function g (x) (fun (y) (add x y)))")

    def test_a_var_that_is_read(self):
        self.right("g", (0, (1, 1), 1), "(open m () (var v 1 (do (set v 2) @(say v) (set v 3))))",
                   "(open m () (var v 1 (do (set v 2) (g v) (set v 3))))\n(function g (v) (say v))")

    def test_a_set_of_a_var_of_its_own(self):
        self.right("g", (0, (0,), 0), "(open m () (say @(var v 1 (set v 2))))", "(open m () (say (g)))\n(function g () (var v 1 (set v 2)))")

    def test_the_form_is_laid_behind_its_own_one(self):
        # The numbers of the functions behind it grow.
        self.right("g", (0, (0,), 0), "(open m () (add @(h) (h))) (function h () 1)", "(open m () (add (g) (h)))\n(function g () (h)) (function h () 1)")
        self.right("g", (1, (0,), 0), "(open a () (h))", "(open m () (say @(h)));end", "(function h () 1)",
                   "(open a () (h))", "(open m () (say (g)))\n(function g () (h));end", "(function h () 1)")
        self.right("g", (0, (0,), 0), "(open m () (say @1)) ; of r\n (record r a) (open n () 1)",
                   "(open m () (say (g)))\n(function g () 1) ; of r\n (record r a) (open n () 1)")

    def test_signs(self):
        self.right("g", (0, (0,), 1), "(open m (x)(say ; here\n @(add ; one\n 1(row  x)) ; end\n))",
                   "(open m (x)(say ; here\n (g x) ; end\n))\n(function g (x) (add ; one\n 1(row  x)))")
        program = program_of("(open m(x)(add(say x)x))")
        edits, paper = drawn(program, 0, 8, "g")
        self.assertEqual(edits, [(0, 8, 4, "(g x)"), (0, 15, 0, "\n(function g (x) (say x))")])
        self.sound(program, edits, paper)

    def test_names_that_are_alike_but_for_their_sort(self):
        self.right("x", (0, (0,), 1), "(open m (x) (say @(add x 1)))", "(open m (x) (say (x x)))\n(function x (x) (add x 1))")
        self.right("r", (0, (0,), 0), "(open m () (say @1)) (record r r)", "(open m () (say (r)))\n(function r () 1) (record r r)")

    def test_functions_of_the_name_that_nobody_calls(self):
        self.right("g", (2, (0,), 0), "(function g () 1) (open a () (g))", "(open m () (say @1))", "(open g () 1)",
                   "(function g () 1) (open a () (g))", "(open m () (say (g)))\n(function g () 1)", "(open g () 1)")


class Refused(Drawing):
    def test_no_piece(self):
        for text in ("@(open m (x) 1)", "(@open m (x) 1)", "(open @m (x) 1)", "(open m @(x) 1)", "(open m (@x) 1)", "(open m (x @) 1)", "(open m (x) 1 @)",
                     "(open m () (@say 1))", "(open m () (say 1 @))", "(open m () (let @x 1 x))", "(open m () (var v 1 (set @v 2)))",
                     "(open m () (fun @() 1))", "(open m () (fault @x))", "(record r @a)", "(record r a) (open m (x) (new @r 1))",
                     "(record r a) (open m (x) (get r @a x))", "(function f () 1) (open m () (@f))"):
            self.wrong("name", "g", text)
        program = program_of("(open f () 1)", "")
        for place in ((0, -1), (0, 7), (-1, 5), (1, 0), (2, 5), (0, 1000), (10 ** 39, 5), (0, -10 ** 39)):
            self.refused_at(drawn, program, place, ("g",), "name", place)

    def test_no_name(self):
        for name in ("", "G", "open", "say", "toolongname", "a b", "a1", "(", "g\n", ";"):
            self.wrong("name", name, "(open m () @1)")

    def test_used(self):
        self.wrong("used", "g", "(open m () @1) (function ^g () 2)")
        self.wrong("used", "m", "(open ^m () @1)")
        self.wrong("used", "g", "(deep ^g () 2) (open m () @(g))")
        # Ahead of shade and set.
        self.wrong("used", "g", "(function g () 1)", "(open m () (var v 1 @(set v (g)))) (deep ^g () 2)", "(open n () (g))")

    def test_shade(self):
        # A call in its part of one in another part.
        self.wrong("shade", "g", "(function g () 1)", "(open m () @1) (open n () (^g))")
        self.wrong("shade", "g", "(open n () (^g)) (open m () @1)", "(function g () 1)")
        # Within the piece itself.
        self.wrong("shade", "g", "(open m () (say @(add 1 (^g))))", "(function g () 1)")
        # A call from a third part, of which this one is ahead.
        self.wrong("shade", "g", "(open n () 1)", "(open m () @1)", "(open o () (^g)) (open p () (g))", "(deep g () 1)")
        # That one is ahead.
        self.right("g", (2, (), 0), "(deep g () 1)", "(open o () (g))", "(open m () @1)", "(deep g () 1)", "(open o () (g))", "(open m () (g))\n(function g () 1)")
        # It has one of its own.
        self.right("g", (0, (), 0), "(open m () @1)", "(deep g () 1) (open o () (g))", "(open m () (g))\n(function g () 1)", "(deep g () 1) (open o () (g))")

    def test_shade_at_the_least_place(self):
        self.wrong("shade", "g", "(open m () @1) (open n () (^g))", "(open o () (g))", "(function g () 1)")
        self.wrong("shade", "g", "(function g () 1)", "(open n () (^g)) (open m () @(g))", "(open o () (g))")
        # Ahead of set, though the set stands ahead.
        self.wrong("shade", "g", "(open m () (var v 1 @(set v (^g))))", "(function g () 1)")

    def test_set(self):
        self.wrong("set", "g", "(open m () (var v 1 @(set ^v 2)))")
        self.wrong("set", "g", "(open m () (var w 1 (var v 1 @(do v (var w 1 (set w 2)) (set ^v 2) (set w 1)))))")
        self.wrong("set", "g", "(open m () (fun () (var v 1 @(say (set ^v (set v 2))))))")

    def test_many_params(self):
        self.wrong("many", "g", "(open m (a b c d) (let e 1 @(row a b c d e)))")
        self.wrong("set", "g", "(open m (a b c d) (var e 1 @(set ^e (row a b c d e))))")

    def test_many_forms(self):
        for more in (0, 1):
            forms = "".join(f"(record r{'abcdefgh'[one // 8]}{'abcdefgh'[one % 8]} a)" for one in range(38 + more))
            if more:
                self.wrong("many", "g", forms + "(open m () @1)")
            else:
                self.right("g", (0, (), 0), forms + "(open m () @1)", forms + "(open m () (g))\n(function g () 1)")

    def test_many_tokens(self):
        # The new form has 7 tokens and the call 3, for the one that goes.
        for more in (0, 1):
            full = "(open m () (do @2 " + "1 " * (1000 - 10 - 9 + more) + "))"
            if more:
                self.wrong("many", "g", full)
            else:
                self.right("g", (0, (0,), 0), full, full.replace("@2", "(g)") + "\n(function g () 2)")

    def test_many_signs(self):
        for more in (0, 1):
            text = "(open m () 1)"
            told = "(open m () (g))\n(function g () 1)"
            tail = ";" * (20000 - len(told) + more)
            if more:
                self.wrong("many", "g", text.replace("1", "@1") + tail)
            else:
                self.right("g", (0, (), 0), text.replace("1", "@1") + tail, told + tail)

    def test_many_brackets(self):
        # A number within as many brackets as there may be.
        for more in (0, 1):
            text = "(open m () " + "(not " * (58 + more) + "@1" + ")" * (58 + more) + ")"
            if more:
                self.wrong("many", "g", text)
            else:
                self.right("g", (0, (0,) * 58, 0), text, text.replace("@1", "(g)") + "\n(function g () 1)")

    def test_many_expressions(self):
        # A step tells at most 4,000, and the piece stands there twice when its call is unfolded.
        parts = [f"(open {name} () (do {'1 ' * 979}))" for name in "abcd"]
        for many in (38, 39):
            piece = "(do " + "1 " * many + ")"
            asked = parts + [f"(open m () (say @{piece}))"]
            if 4 * 980 + (many + 2) + (many + 1) <= 4000:
                self.right("g", (4, (0,), 0), *asked, *parts, f"(open m () (say (g)))\n(function g () {piece})")
            else:
                self.wrong("many", "g", *asked)


if __name__ == "__main__":
    unittest.main()
