"""Ifs turned about, and eachs parted."""

import unittest

from helpers import asked_program, program_of
from turnings import Turnings
from turnsame.edits import edited
from turnsame.tokens import tokens_of
from turnsame.turning import flipped, parted


class Flipped(Turnings):
    def right(self, there, back, text, behind):
        paper = self.turned(flipped, (text,), (), (behind,))
        self.assertEqual(paper[:2], (there, back))
        self.assertEqual(paper[4], ())

    def wrong(self, word, *texts):
        self.refused(flipped, texts, (), word)

    def test_a_not(self):
        self.right((("flip", 0, ()),), (), "(open m (x) @(if (not x) 1 2))", "(open m (x) (if x 2 1))")
        self.right((("flip", 1, (0,)),), (), "(open a () 1) (open m (x) (say @(if (not (add x 1)) (say 1) (do 2 3))))",
                   "(open a () 1) (open m (x) (say (if (add x 1) (do 2 3) (say 1))))")

    def test_another_test(self):
        self.right((), (("flip", 0, ()),), "(open m (x) @(if x 1 2))", "(open m (x) (if (not x) 2 1))")
        self.right((), (("flip", 0, ()),), "(open m (x) @(if (say x) 1 2))", "(open m (x) (if (not (say x)) 2 1))")

    def test_a_not_of_a_not(self):
        self.right((("flip", 0, ()),), (), "(open m (x) @(if (not (not x)) 1 2))", "(open m (x) (if (not x) 2 1))")

    def test_ifs_within_ifs(self):
        self.right((), (("flip", 0, ()),), "(open m (x) @(if (if (not x) 1 2) (if 3 4 5) (if 6 7 8)))",
                   "(open m (x) (if (not (if (not x) 1 2)) (if 6 7 8) (if 3 4 5)))")
        self.right((("flip", 0, (0,)),), (), "(open m (x) (if @(if (not x) 1 2) 3 4))", "(open m (x) (if (if x 2 1) 3 4))")
        self.right((), (("flip", 0, (0, 0)),), "(open m (x) (apply (fun () @(if x 1 2))))", "(open m (x) (apply (fun () (if (not x) 2 1))))")

    def test_gaps(self):
        self.right((), (("flip", 0, ()),), "(open m (x) @(if ; test\n x ; one\n (say ; inner\n 1)\n\n 2 ; end\n))",
                   "(open m (x) (if ; test\n (not x) ; one\n 2\n\n (say ; inner\n 1) ; end\n))")
        self.right((("flip", 0, ()),), (), "(open m (x) @(if ; test\n (not ; gone\n (add ; kept\n x 1) ; gone\n ) 1 2))",
                   "(open m (x) (if ; test\n (add ; kept\n x 1) 2 1))")

    def test_two_words_that_would_run_into_one(self):
        program = program_of("(open m(x)(if(not x)1(row)))")
        edits, paper = flipped(program, 0, 6)
        self.assertEqual(edits, [(0, 8, 4, " x"), (0, 12, 1, "(row)"), (0, 13, 3, "1")])
        self.assertEqual(self.sound(program, edits, paper)[0][1], "(open m(x)(if x(row)1))")
        program = program_of("(open m(x)(if(not x)(row)2))")
        edits, paper = flipped(program, 0, 6)
        self.assertEqual(edits, [(0, 8, 4, " x"), (0, 12, 3, " 2"), (0, 15, 1, "(row)")])
        self.assertEqual(self.sound(program, edits, paper)[0][1], "(open m(x)(if x 2(row)))")
        program = program_of("(open m(x)(if(row)(row)(row 1)))")
        edits, paper = flipped(program, 0, 6)
        self.assertEqual(edits, [(0, 8, 3, "(not (row))"), (0, 11, 3, "(row 1)"), (0, 14, 4, "(row)")])

    def twice(self, text):
        program, place, _ = asked_program(text)
        once = edited(program, flipped(program, *place)[0])
        return program, edited(once, flipped(once, *place)[0])

    def words(self, program):
        return [[word for _, word in tokens_of(text)[0]] for _, text in program]

    def test_twice_one_behind_the_other(self):
        for text in ("(open m (x) @(if x 1 2))", "(open m (x) @(if (not x) 1 2))", "(open m (x) (say @(if(say x)(do 1)(row))))"):
            program, behind = self.twice(text)
            self.assertEqual(self.words(behind), self.words(program))
        program, behind = self.twice("(open m (x) @(if (not (not x)) 1 2))")
        self.assertEqual(behind, program_of("(open m (x) (if x 1 2))"))

    def test_no_if(self):
        for text in ("@(open m (x) (if x 1 2))", "(open m (x) (@if x 1 2))", "(open m (x) (if @x 1 2))", "(open m (x) (if x 1 2 @))",
                     "(open m (x) (if x @(say 1) 2))", "(open @m (x) 1)", "(open m () @1)", "(open m () @(while 0 0))"):
            self.wrong("name", text)
        program = program_of("(open m (x) (if x 1 2))", "")
        for place in ((0, -1), (0, 13), (-1, 6), (1, 0), (2, 6), (0, 1000), (10 ** 39, 6), (0, -10 ** 39)):
            self.refused_at(flipped, program, place, (), "name", place)

    def test_many_tokens(self):
        for more in (0, 1):
            ones = "1 " * (982 + more)
            told = f"(open m () (do (if (not 2) 4 3) {ones}))"
            self.assertEqual(len(tokens_of(told)[0]), 1000 + more)
            if more:
                self.wrong("many", f"(open m () (do @(if 2 3 4) {ones}))")
            else:
                self.right((), (("flip", 0, (0,)),), f"(open m () (do @(if 2 3 4) {ones}))", told)

    def test_many_signs(self):
        for more in (0, 1):
            tail = ";" * (20000 - len("(open m () (if (not 1) 3 2))") + more)
            if more:
                self.wrong("many", "(open m () @(if 1 2 3))" + tail)
            else:
                self.right((), (("flip", 0, ()),), "(open m () @(if 1 2 3))" + tail, "(open m () (if (not 1) 3 2))" + tail)

    def test_many_brackets(self):
        for more in (0, 1):
            text = "(open m () @(if " + "(say " * (57 + more) + "1" + ")" * (57 + more) + " 2 3))"
            if more:
                self.wrong("many", text)
            else:
                self.right((), (("flip", 0, ()),), text, text.replace("@(if ", "(if (not ").replace(" 2 3", ") 3 2"))


class Parted(Turnings):
    def right(self, k, there, text, behind):
        paper = self.turned(parted, (text,), (k,), (behind,))
        self.assertEqual(paper[:2], ((("part",) + there + (k,),), ()))
        self.assertEqual(paper[4], ())

    def wrong(self, word, k, *texts):
        self.refused(parted, texts, (k,), word)

    def test_at_each_number(self):
        text = "(open m (x) @(each i (row 1 x) (do (add i 1) (say i) (sub i 1))))"
        self.right(1, (0, ()), text, "(open m (x) (do (each i (row 1 x) (do (add i 1))) (each i (row 1 x) (do (say i) (sub i 1)))))")
        self.right(2, (0, ()), text, "(open m (x) (do (each i (row 1 x) (do (add i 1) (say i))) (each i (row 1 x) (do (sub i 1)))))")

    def test_deeper(self):
        self.right(1, (1, (0, 0)), "(open a () 1) (open m (x) (apply (fun () @(each x (row x) (do x (say x))))))",
                   "(open a () 1) (open m (x) (apply (fun () (do (each x (row x) (do x)) (each x (row x) (do (say x)))))))")

    def test_vars_apart(self):
        self.right(1, (0, (1, 1)), "(open m () (var v 0 (var w 0 @(each i (row 1 2) (do (set v (add v i)) (set w (add w i)))))))",
                   "(open m () (var v 0 (var w 0 (do (each i (row 1 2) (do (set v (add v i)))) (each i (row 1 2) (do (set w (add w i))))))))")
        # Both read it.
        self.right(1, (0, (1,)), "(open m () (var v 0 @(each i (row v 2) (do (say v) (add v 1)))))",
                   "(open m () (var v 0 (do (each i (row v 2) (do (say v))) (each i (row v 2) (do (add v 1))))))")
        # Vars of their own.
        self.right(1, (0, ()), "(open m () @(each i (row 1 2) (do (var v 0 (set v 1)) (var v 0 (set v 2)))))",
                   "(open m () (do (each i (row 1 2) (do (var v 0 (set v 1)))) (each i (row 1 2) (do (var v 0 (set v 2))))))")

    def test_gaps(self):
        self.right(1, (0, ()), "(open m () ; each\n @(each ; x\n i ; of\n (row ; one\n 1) ; body\n (do ; first\n 1 ; second\n (say 2) ; end\n) ; out\n) ; tail\n)",
                   "(open m () (do ; each\n (each ; x\n i ; of\n (row ; one\n 1) ; body\n (do ; first\n 1)) (each i (row ; one\n 1) (do ; second\n (say 2) ; end\n) ; out\n)) ; tail\n)")

    def test_two_words_that_would_run_into_one(self):
        program = program_of("(open m(x)(each i(row 1 2)(do(add i 1)x 3)))")
        edits, paper = parted(program, 0, 6, 1)
        self.assertEqual(edits, [(0, 6, 0, " (do"), (0, 21, 1, ")) (each i (row 1 2) (do x"), (0, 25, 0, ")")])
        self.assertEqual(self.sound(program, edits, paper)[0][1], "(open m(x) (do(each i(row 1 2)(do(add i 1))) (each i (row 1 2) (do x 3))))")
        edits, paper = parted(program, 0, 6, 2)
        self.assertEqual(edits, [(0, 6, 0, " (do"), (0, 22, 0, ")) (each i (row 1 2) (do"), (0, 25, 0, ")")])

    def test_no_each_of_a_do(self):
        for text in ("@(open m () (each i 1 (do 1 2)))", "(open m () (@each i 1 (do 1 2)))", "(open m () (each @i 1 (do 1 2)))", "(open m () (each i @1 (do 1 2)))",
                     "(open m () (each i 1 @(do 1 2)))", "(open m () @(each i (do 1 2) 1))", "(open m () @(let i 1 (do 1 2)))", "(open m () @1)"):
            self.wrong("name", 1, text)
        program = program_of("(open m () (each i 1 (do 1 2)))", "")
        for place in ((0, -1), (0, 15), (-1, 5), (1, 0), (2, 5), (0, 1000), (10 ** 39, 5), (0, -10 ** 39)):
            self.refused_at(parted, program, place, (1,), "name", place)

    def test_no_such_number(self):
        for k in (-1, 0, 3, 4, 10 ** 39, -10 ** 39):
            self.wrong("name", k, "(open m () @(each i 1 (do 1 2 3)))")
            self.wrong("name", k, "(open m () (var v 1 @(each i (say v) (do (set v 1) (say 2) (say 3)))))")
        self.wrong("name", 1, "(open m () @(each i 1 (do 1)))")

    def test_set_of_what_the_row_reads(self):
        self.wrong("set", 1, "(open m () (var v (row 1) @(each i v (do 1 (set ^v 2)))))")
        self.wrong("set", 2, "(open m () (var v (row 1) @(each i (row v) (do 1 (set ^v 2) (set v 3)))))")
        # Also where it is not idle.
        self.wrong("set", 1, "(open m () (var v (row 1) @(each i (say v) (do 1 (set ^v 2)))))")

    def test_set_of_what_the_other_side_meets(self):
        self.wrong("set", 1, "(open m () (var v 1 @(each i (row 1) (do (set ^v i) (add v i)))))")
        self.wrong("set", 1, "(open m () (var v 1 @(each i (row 1) (do (add v i) (say (set ^v i))))))")
        self.wrong("set", 1, "(open m () (var v 1 @(each i (row 1) (do (set ^v i) (set v 2)))))")
        self.wrong("set", 2, "(open m () (var w 1 (var v 1 @(each i (row 1) (do (set w 1) (set ^v i) (set v 2))))))")
        # The same side is no matter.
        self.right(2, (0, (1,)), "(open m () (var v 1 @(each i (row 1) (do (set v i) (add v i) 3))))",
                   "(open m () (var v 1 (do (each i (row 1) (do (set v i) (add v i))) (each i (row 1) (do 3)))))")
        # The least one of both kinds; a set of the row's own is none of the things'.
        self.wrong("set", 1, "(open m () (var w 1 (var v 1 @(each i (row w) (do (set ^v i) (do v (set w 2)))))))")
        self.wrong("set", 1, "(open m () (var w 1 (var v 1 @(each i (row w) (do (do v (set ^w 2)) (set v i))))))")
        self.wrong("set", 1, "(open m () (var v 1 @(each i (set v (row 1)) (do v (set ^v 2)))))")

    def test_deed(self):
        self.wrong("deed", 1, "(open m () @(each i ^(say 1) (do 1 2)))")
        self.wrong("deed", 1, "(open m () (var v 1 @(each i ^(set v (row 1)) (do 1 2))))")
        self.wrong("deed", 1, "(open m () @(each i ^(at 1 1) (do (say 1) (say 2))))")
        self.wrong("deed", 1, "(open m () @(each i (row) (do (say 1) 2 ^(div 1 1) (say 3))))")
        self.wrong("deed", 2, "(open m () @(each i (row) (do (say 1) 2 ^(fault a) (say 3))))")
        # Ahead of k alone, or from k on alone.
        self.right(2, (0, ()), "(open m () @(each i (row) (do (say 1) (say 2) 3)))", "(open m () (do (each i (row) (do (say 1) (say 2))) (each i (row) (do 3))))")
        self.right(1, (0, ()), "(open m () @(each i (row) (do 1 (say 2) (say 3))))", "(open m () (do (each i (row) (do 1)) (each i (row) (do (say 2) (say 3)))))")

    def test_set_goes_ahead_of_deed(self):
        self.wrong("set", 1, "(open m () (var v 1 @(each i (say 1) (do (say v) (say 2) (set ^v 3)))))")

    def test_many_tokens(self):
        for more in (0, 1):
            ones = "1 " * (974 + more)
            told = f"(open m () (do (each i 1 (do 2)) (each i 1 (do {ones}))))"
            self.assertEqual(len(tokens_of(told)[0]), 1000 + more)
            if more:
                self.wrong("many", 1, f"(open m () @(each i 1 (do 2 {ones})))")
            else:
                self.right(1, (0, ()), f"(open m () @(each i 1 (do 2 {ones})))", told)

    def test_many_signs(self):
        for more in (0, 1):
            told = "(open m () (do (each i 1 (do 2)) (each i 1 (do 3))))"
            tail = ";" * (20000 - len(told) + more)
            if more:
                self.wrong("many", 1, "(open m () @(each i 1 (do 2 3)))" + tail)
            else:
                self.right(1, (0, ()), "(open m () @(each i 1 (do 2 3)))" + tail, told + tail)

    def test_many_brackets(self):
        for more in (0, 1):
            deep = "(not " * (56 + more) + "3" + ")" * (56 + more)
            if more:
                self.wrong("many", 1, f"(open m () @(each i 1 (do 2 {deep})))")
            else:
                self.right(1, (0, ()), f"(open m () @(each i 1 (do 2 {deep})))", f"(open m () (do (each i 1 (do 2)) (each i 1 (do {deep}))))")


if __name__ == "__main__":
    unittest.main()
