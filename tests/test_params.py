"""Params put into functions, and taken out of them."""

import unittest

from helpers import program_of
from turnings import Turnings
from turnsame.edits import edited
from turnsame.params import put_param, take_param


class Put(Turnings):
    def right(self, k, name, number, step, *texts_and_behind):
        """Texts, then as many as they are once more, behind the turning."""
        many = len(texts_and_behind) // 2
        paper = self.turned(put_param, texts_and_behind[:many], (k, name, number), texts_and_behind[many:])
        self.assertEqual(paper[:2], ((), (("param",) + step,)))
        self.assertEqual(paper[4], ())

    def wrong(self, word, k, name, number, *texts):
        self.refused(put_param, texts, (k, name, number), word)

    def test_into_none(self):
        self.right(0, "x", 7, (0, 0), "(function @f () 1) (open m () (f))", "(function f (x) 1) (open m () (f 7))")

    def test_first_middle_last(self):
        text = "(function @f (a b c) (add a (add b c))) (open m (y) (f 1 y 3))"
        self.right(0, "x", 7, (0, 0), text, "(function f (x a b c) (add a (add b c))) (open m (y) (f 7 1 y 3))")
        self.right(1, "x", 7, (0, 1), text, "(function f (a x b c) (add a (add b c))) (open m (y) (f 1 7 y 3))")
        self.right(2, "x", -7, (0, 2), text, "(function f (a b x c) (add a (add b c))) (open m (y) (f 1 y -7 3))")
        self.right(3, "x", 0, (0, 3), text, "(function f (a b c x) (add a (add b c))) (open m (y) (f 1 y 3 0))")

    def test_a_deep_one_and_its_own_calls(self):
        self.right(1, "x", 2, (1, 1), "(open m () (f 1)) (deep @f (n) (if n (f (sub n 1)) 0))",
                   "(open m () (f 1 2)) (deep f (n x) (if n (f (sub n 1)2) 0))")

    def test_calls_in_other_parts_and_funs(self):
        self.right(0, "x", 5, (1, 0), "(open m () (fun () (f 1)))", "(function @f (a) a) (open n () (f 2))", "(open o () (say (f 3)))",
                   "(open m () (fun () (f 5 1)))", "(function f (x a) a) (open n () (f 5 2))", "(open o () (say (f 5 3)))")

    def test_another_function_of_the_name(self):
        self.right(0, "x", 5, (0, 0), "(function @f () 1) (open m () (f))", "(function f () 2) (open n () (f))",
                   "(function f (x) 1) (open m () (f 5))", "(function f () 2) (open n () (f))")

    def test_calls_within_calls(self):
        self.right(0, "x", 5, (0, 0), "(function @f (a b) a) (open m () (f (f 1 2) (f (f 3 4) 5)))",
                   "(function f (x a b) a) (open m () (f 5 (f 5 1 2) (f 5 (f 5 3 4) 5)))")
        self.right(2, "x", 5, (0, 2), "(function @f (a b) a) (open m () (f 6 (f 1 2)))",
                   "(function f (a b x) a) (open m () (f 6 (f 1 2 5)5))")

    def test_a_name_that_is_bound_within(self):
        self.right(0, "x", 5, (0, 0), "(function @f (a) (let x a x)) (open m () (f 1))", "(function f (x a) (let x a x)) (open m () (f 5 1))")
        self.right(0, "f", 5, (0, 0), "(function @f (a) a) (open m () (f 1))", "(function f (f a) a) (open m () (f 5 1))")

    def test_gaps_stay(self):
        self.right(1, "x", 5, (0, 1), "(function @f( ; none\n a ; of a\n b) a)(open m()(f ; here\n 1 ; one\n 2)) ; tail",
                   "(function f( ; none\n a x ; of a\n b) a)(open m()(f ; here\n 1 5 ; one\n 2)) ; tail")

    def test_where_words_would_run_into_one(self):
        program = program_of("(function f(a b)a)(open m()(f(f 1 2)3))")
        for k, edits in (
            (0, [(0, 4, 1, "x a"), (0, 16, 0, " 5"), (0, 18, 0, " 5")]),
            (1, [(0, 5, 0, " x"), (0, 19, 0, " 5"), (0, 21, 1, "5 3")]),
            (2, [(0, 6, 0, " x"), (0, 20, 0, " 5"), (0, 22, 0, " 5")]),
        ):
            told, paper = put_param(program, 0, 2, k, "x", 5)
            self.assertEqual(told, edits)
            self.sound(program, told, paper)
        self.assertEqual(edited(program, put_param(program, 0, 2, 1, "x", 5)[0])[0][1], "(function f(a x b)a)(open m()(f(f 1 5 2)5 3))")

    def test_no_such_place(self):
        for text in ("(record @r a)", "(record r @a)", "(deep f (@x) x)", "(deep f (x) @x)", "@(deep f () 1)", "(@deep f () 1)",
                     "(function g () 1) (open f () (@g))", "(open f () (fault @f))", "(open f () (let @f 1 f))", "(open f () @1)"):
            self.wrong("name", 0, "z", 1, text)
        program = program_of("(deep f () 1)", "")
        for place in ((0, -1), (0, 7), (-1, 2), (1, 0), (2, 2), (0, 1000), (10 ** 39, 2), (0, -10 ** 39)):
            self.refused_at(put_param, program, place, (0, "x", 1), "name", place)

    def test_what_is_asked_is_none_of_its_kind(self):
        text = "(deep @f (a b) a)"
        for name in ("", "X", "open", "at", "toolongname", "a b", "a1", "(", "a\n", ";"):
            self.wrong("name", 0, name, 1, text)
        for number in (32768, -32769, 10 ** 39, -10 ** 39):
            self.wrong("name", 0, "x", number, text)
        for number in (32767, -32768):
            self.right(0, "x", number, (0, 0), text, "(deep f (x a b) a)")
        for k in (-1, 3, 4, 10 ** 39, -10 ** 39):
            self.wrong("name", k, "x", 1, text)

    def test_name_goes_ahead_of_all(self):
        self.wrong("name", 2, "x", 1, "(open @f (a) a)")
        self.wrong("name", 0, "do", 1, "(open @f (a b c d) a)")
        self.wrong("name", 5, "a", 1, "(deep @f (a b c d) a)")

    def test_open(self):
        self.wrong("open", 0, "x", 1, "(open @f (a) a)")
        # Ahead of used.
        self.wrong("open", 0, "a", 1, "(open @f (a) a)")
        self.wrong("open", 4, "x", 1, "(open @f (a b c d) a)")

    def test_used(self):
        self.wrong("used", 1, "c", 1, "(deep @f (a b ^c) a)")
        self.wrong("used", 0, "a", 1, "(deep @f (^a) 1)")
        # Four already: the name's place is ahead of the param's.
        self.wrong("used", 0, "x", 1, "(deep @f (a b c d) a)")
        self.wrong("used", 4, "d", 1, "(function @f (a b c d) a)")

    def test_too_many_tokens(self):
        # A function of 7 tokens, another one of 9 and its things: one token for the param.
        for more in (0, 1):
            full = "(deep @f () 1) (open m () (do " + "1 " * (1000 - 16 - 1 + more) + "))"
            if more:
                self.wrong("many", 0, "x", 1, full)
                # All else goes ahead.
                self.wrong("name", 1, "x", 1, full)
                self.wrong("open", 0, "x", 1, full.replace("deep", "open"))
            else:
                self.right(0, "x", 1, (0, 0), full, full.replace("@f ()", "f (x)"))

    def test_too_many_signs(self):
        # A part that is not the one asked.
        for more in (0, 1):
            calls = "(open m () (f))"
            full = calls + ";" * (20000 - len(calls) - len(" 32767") + more)
            if more:
                self.wrong("many", 0, "x", 32767, "(deep @f () 1)", full)
            else:
                self.right(0, "x", 32767, (0, 0), "(deep @f () 1)", full, "(deep f (x) 1)", full.replace("(f)", "(f 32767)"))


class Take(Turnings):
    def right(self, step, *texts_and_behind):
        many = len(texts_and_behind) // 2
        paper = self.turned(take_param, texts_and_behind[:many], (), texts_and_behind[many:])
        self.assertEqual(paper[:2], ((("param",) + step,), ()))
        self.assertEqual(paper[4], ())

    def wrong(self, word, *texts):
        self.refused(take_param, texts, (), word)

    def test_the_only_one(self):
        self.right((0, 0), "(function f (@x) 1) (open m () (f 7))", "(function f () 1) (open m () (f))")

    def test_first_middle_last(self):
        self.right((0, 0), "(function f (@a b c) (add b c)) (open m (y) (f 1 y 3))", "(function f ( b c) (add b c)) (open m (y) (f y 3))")
        self.right((0, 1), "(function f (a @b c) (add a c)) (open m (y) (f 1 y 3))", "(function f (a c) (add a c)) (open m (y) (f 1 3))")
        self.right((0, 2), "(function f (a b @c) (add a b)) (open m (y) (f 1 y 3))", "(function f (a b) (add a b)) (open m (y) (f 1 y))")

    def test_a_deep_one_and_its_own_calls(self):
        self.right((1, 1), "(open m () (f 1 9)) (deep f (n @x) (if n (f (sub n 1) 2) 0))",
                   "(open m () (f 1)) (deep f (n) (if n (f (sub n 1)) 0))")

    def test_calls_in_other_parts_and_funs(self):
        self.right((1, 0), "(open m () (fun () (f (row 1 2) 1)))", "(function f (@x a) a) (open n () (f 5 2))", "(open o (p) (say (f p 3)))",
                   "(open m () (fun () (f 1)))", "(function f ( a) a) (open n () (f 2))", "(open o (p) (say (f 3)))")

    def test_calls_within_calls(self):
        # A call within a thing that stays, and one within a thing that goes.
        self.right((0, 0), "(function f (@x a) a) (open m () (f (f 1 (f 2 3)) (f (add 1 2) (say 4))))",
                   "(function f ( a) a) (open m () (f (f (say 4))))")
        self.right((0, 0), "(function f (@x) 1) (open m () (f (f (f 1))))", "(function f () 1) (open m () (f))")

    def test_things_that_are_idle(self):
        self.right((0, 0), "(function f (@x) 1) (function g (a) (add a 1)) (open m (y) (var v y (f (let w (g v) (fun () (say w))))))",
                   "(function f () 1) (function g (a) (add a 1)) (open m (y) (var v y (f)))")

    def test_a_param_of_the_name_elsewhere(self):
        self.right((0, 0), "(function f (@x) (let x 1 (add x (apply (fun (x) x) 2)))) (open m (x) (f x))",
                   "(function f () (let x 1 (add x (apply (fun (x) x) 2)))) (open m (x) (f))")

    def test_gaps_stay(self):
        self.right((0, 0), "(function f( ; none\n @a ; of a\n b) b)(open m()(f ; here\n 1 ; one\n 2)) ; tail",
                   "(function f( ; of a\n b) b)(open m()(f ; one\n 2)) ; tail")

    def test_two_words_that_would_run_into_one(self):
        program = program_of("(function f(a b c)a)(open m()(f 1(add 2 3)4))(open n()(f(row)(row)4))")
        edits, paper = take_param(program, 0, 5)
        self.assertEqual(edits, [(0, 5, 1, ""), (0, 18, 6, " 4"), (0, 36, 3, "")])
        self.assertEqual(self.sound(program, edits, paper)[0][1], "(function f(a c)a)(open m()(f 1 4))(open n()(f(row)4))")
        # The function's own name is a word, too.
        program = program_of("(function f(a b)b)(open m()(f(row)4))")
        edits, paper = take_param(program, 0, 4)
        self.assertEqual(edits, [(0, 4, 1, ""), (0, 16, 4, " 4")])
        self.assertEqual(self.sound(program, edits, paper)[0][1], "(function f( b)b)(open m()(f 4))")

    def test_no_such_place(self):
        for text in ("(record @r a)", "(record r @a)", "(deep @f (x) x)", "(deep f (x) @x)", "@(deep f (x) 1)", "(deep f @(x) 1)", "(deep f (x @) 1)",
                     "(function g () 1) (open f () (@g))", "(open f () (fault @f))", "(deep f () (let @f 1 f))", "(deep f () (fun (@x) 1))",
                     "(deep f () (var @x 1 2))", "(deep f () (each @x 1 2))", "(deep f () @1)"):
            self.wrong("name", text)
        program = program_of("(deep f (x) 1)", "")
        for place in ((0, -1), (0, 8), (-1, 4), (1, 0), (2, 4), (0, 1000), (10 ** 39, 4), (0, -10 ** 39)):
            self.refused_at(take_param, program, place, (), "name", place)

    def test_open(self):
        self.wrong("open", "(deep g () 1) (open ^f (a @b) 1)")
        # Ahead of used.
        self.wrong("open", "(open ^f (@a) a)")

    def test_used(self):
        self.wrong("used", "(deep f (a @x) (add a ^x)) (open m () (f 1 2))")
        self.wrong("used", "(deep f (@x) (add (let x ^x x) x))")
        self.wrong("used", "(deep f (@x) (var v 1 (do (set v ^x) x)))")
        self.wrong("used", "(deep f (@x) (apply (fun () (say ^x))))")
        # Ahead of deed, though the deed stands ahead.
        self.wrong("used", "(open m () (f (say 1))) (deep f (@x) ^x)")

    def test_deed(self):
        self.wrong("deed", "(deep f (@x) 1) (open m () (f ^(say 1)))")
        for thing in ("(fault a)", "(while 0 0)", "(apply 1)", "(get r a 1)", "(div 1 1)", "(at 1 1)", "(f 1)", "(g)", "(add 1 (say 2))"):
            self.wrong("deed", "(record r a) (function g () (div 1 0)) (deep f (@x) 1) (open m () (add (f 1) (f ^" + thing + ")))")
        self.wrong("deed", "(function f (@x) 1) (open m (y) (var v 1 (f ^(set v 2))))")
        # Sets of a var of its own are idle.
        self.right((0, 0), "(function f (@x) 1) (open m (y) (f (var v 1 (set v 2))))", "(function f () 1) (open m (y) (f))")

    def test_deed_at_the_least_place(self):
        self.wrong("deed", "(open n () (f 2 ^(say 1)))", "(open m () (f 1 (say 2))) (function f (a @x) a)")
        self.wrong("deed", "(function f (a @x) a) (open m () (f (say 3) ^(f (say 1) (say 2))))")
        # Within a fun, in a thing that is idle by itself.
        self.wrong("deed", "(function f (@x) 1) (open m () (f (fun () (f ^(say 1)))))")


if __name__ == "__main__":
    unittest.main()
