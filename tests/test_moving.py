"""Functions and records moved to another part."""

import unittest

from helpers import program_of
from turnings import Turnings
from turnsame.moving import moved


class Moving(Turnings):
    def right(self, other, functions, records, *texts_and_behind):
        """Texts, then as many as they are once more, behind the turning."""
        many = len(texts_and_behind) // 2
        paper = self.turned(moved, texts_and_behind[:many], (other,), texts_and_behind[many:])
        self.assertEqual(paper, ((), (), functions, records, ()))

    def wrong(self, word, other, *texts):
        self.refused(moved, texts, (other,), word)


class Told(Moving):
    def test_a_function(self):
        self.right(1, (1, 2, 0), (), "(function @f () 1) (open m () (f))", "(open n () (f))", " (open m () (f))", "(open n () (f))(function f () 1)")
        self.right(0, (0, 2, 1), (), "(open m () (f))", "(open n () (f)) (function @f () 1)", "(open m () (f)) (function f () 1)", "(open n () (f))")
        self.right(1, (0, 1), (), "(deep g () 1) (deep @f () (f))", "", "(deep g () 1)", " (deep f () (f))")

    def test_an_open_one(self):
        self.right(1, (1, 0), (), "(open @f () 1) (open g () 2)", "", " (open g () 2)", "(open f () 1)")

    def test_a_record(self):
        self.right(1, (0,), (1, 2, 0), "(record @r a) (record s a) (open f (x) (get r a (new s x)))", "(record t b c)",
                   " (record s a) (open f (x) (get r a (new s x)))", "(record t b c)(record r a)")
        self.right(0, (0, 1), (0, 2, 1), "(record r a) (open f () (new t 1))", "(record s a b) (record @t c) (open g () (new s 1 2))",
                   "(record r a) (open f () (new t 1)) (record t c)", "(record s a b) (open g () (new s 1 2))")

    def test_between_other_parts(self):
        self.right(0, (0, 3, 1, 2), (), "(open a () 1)", "(open b () 2)", "(open c () 3) (deep @f () 4)",
                   "(open a () 1) (deep f () 4)", "(open b () 2)", "(open c () 3)")
        self.right(2, (1, 2, 0), (), "(deep @f () 4)", "(open b () 2)", "(open c () 3)", "", "(open b () 2)", "(open c () 3)(deep f () 4)")

    def test_functions_and_records_are_numbered_apart(self):
        self.right(1, (0, 1), (1, 0), "(record @r a) (open f () (new r 1))", "(record s a) (open g () 1)",
                   " (open f () (new r 1))", "(record s a) (open g () 1)(record r a)")
        self.right(1, (1, 0), (0, 1), "(record r a) (open @f () (new r 1))", "(open g () 1) (record s a)",
                   "(record r a)", "(open g () 1) (record s a) (open f () (new r 1))")

    def test_pieces_as_they_were(self):
        self.right(1, (0, 2, 1), (), "(open a () 1) ; of f\n\n(function ; here\n @f( ; none\n)\n 1 ; one\n) ; of m\n(open m() (f)) ; tail", "\n; all tail",
                   "(open a () 1) ; of m\n(open m() (f)) ; tail", " ; of f\n\n(function ; here\n f( ; none\n)\n 1 ; one\n)\n; all tail")
        self.right(1, (1, 0), (), "(deep @f()1)", "(open g()2) ; tail", "", "(open g()2)(deep f()1) ; tail")

    def test_edits(self):
        program = program_of("(open a () 1)", "(open b () 2)\n(deep f () 3) (open c () 4);")
        self.assertEqual(moved(program, 1, 9, 0)[0], [(0, 7, 0, "\n(deep f () 3)"), (1, 7, 7, "")])
        self.assertEqual(moved(program, 0, 2, 1)[0], [(0, 0, 7, ""), (1, 21, 0, "(open a () 1)")])

    def test_what_it_means_stays(self):
        # Its own calls and records mean the same from the other part.
        self.right(1, (0, 2, 1), (0, 1), "(record r a) (function g () 1) (open @f () (new r (g)))", "(record s a) (open h () 2)",
                   "(record r a) (function g () 1)", "(record s a) (open h () 2) (open f () (new r (g)))")


class Refused(Moving):
    def test_no_function_or_record_told_there(self):
        for text in ("(record r @a)", "(open f (@x) x)", "(open f (x) @x)", "@(open f () 1)", "(@open f () 1)", "(open f () @1)",
                     "(function g () 1) (open f () (@g))", "(deep f () (@f))", "(record r a) (open f () (new @r 1))",
                     "(record r a) (open f (x) (get @r a x))", "(open f () (fault @f))", "(open f () (let @f 1 f))"):
            # Ahead of what there is against the part.
            for other in (0, 1, 2, -1):
                self.wrong("name", other, text, "")
        program = program_of("(open f () 1)", "")
        for place in ((0, -1), (0, 7), (-1, 2), (1, 0), (2, 2), (1, 2), (0, 1000), (10 ** 39, 2), (0, -10 ** 39)):
            self.refused_at(moved, program, place, (1,), "name", place)

    def test_no_such_part(self):
        for other in (-1, 2, 3, 1000, -10 ** 39, 10 ** 39):
            self.wrong("part", other, "(open @f () 1)", "(open g () 1)")
            self.wrong("part", other, "(record @r a)", "")

    def test_the_own_part(self):
        self.wrong("part", 0, "(open @f () 1)", "")
        self.wrong("part", 1, "(open g () 1)", "(open @f () 1)")

    def test_used(self):
        self.wrong("used", 1, "(function @f () 1)", "(open g () 1) (function ^f () 2)")
        self.wrong("used", 0, "(deep ^f () 1)", "(function @f () 2)")
        self.wrong("used", 1, "(function @f () 1)", "(open ^f () 2)")
        self.wrong("used", 1, "(record @r a)", "(record ^r a b)")
        # A record does not use a function's name, nor one of a third part.
        self.right(1, (0,), (0,), "(record @f a)", "(function f () 1)", "", "(function f () 1)(record f a)")
        self.right(1, (0, 1), (), "(function @f () 1)", "", "(function f () 2)", "", "(function f () 1)", "(function f () 2)")

    def test_used_goes_ahead_of_shade(self):
        self.wrong("used", 2, "(function @f () 1) (open m () (f))", "(function f () 2)", "(open n () (f)) (function ^f () 3)")

    def test_shade_of_what_stays(self):
        # A call of it in its part would mean one that stands earlier.
        self.wrong("shade", 2, "(function f () 1)", "(function @f () 2) (open m () (^f))", "")
        # One that is called from a third part is no longer the first.
        self.wrong("shade", 2, "(function @f () 1)", "(function f () 2)", "", "(open m () (^f))")
        # A call of another one would mean this one.
        self.wrong("shade", 1, "(function f () 1)", "(open m () (^f))", "(function @f () 2)")
        self.wrong("shade", 0, "(open m () (^f))", "(function f () 1)", "(function @f () 2)")
        self.right(1, (0, 1, 2), (), "(function f () 1)", "", "(function @f () 2) (open m () 1)", "(function f () 1)", "(function f () 2)", " (open m () 1)")

    def test_shade_of_what_moves(self):
        self.wrong("shade", 1, "(function g () 1) (open @f () (add 1 (^g)))", "(function g () 2)")
        self.wrong("shade", 1, "(record r a) (open @f () (new ^r 1))", "(record r a)")
        self.wrong("shade", 1, "(record r a) (open @f (x) (get ^r a x))", "(record r a)")
        self.wrong("shade", 2, "(function g () 1)", "(function g () 2) (open @f () (^g))", "")
        # Its call of itself.
        self.right(2, (0, 1), (), "", "(function f () 1) (deep @g () (g))", "", "", "(function f () 1)", " (deep g () (g))")
        self.wrong("shade", 0, "(open m () (^g))", "(deep g () 1)", "(deep @g () (g))")

    def test_shade_of_a_record(self):
        self.wrong("shade", 2, "(record r a)", "(record @r a) (open m () (new ^r 1))", "")
        self.wrong("shade", 0, "(open m (x) (get ^r a x))", "(record r a)", "(record @r a)")

    def test_shade_at_the_least_place(self):
        self.wrong("shade", 1, "(function g () 1) (record r a) (open @f () (add (new ^r 1) (g)))", "(record r a) (function g () 2)")
        self.wrong("shade", 1, "(function g () 1) (record r a) (open @f () (add (^g) (new r 1)))", "(record r a) (function g () 2)")
        self.wrong("shade", 2, "(function f () 1)", "(open k () 5) (function @f () 2) (open m () (^f))", "(open n () 1)", "(open o () (f))")

    def test_too_many_tokens(self):
        # A form of 7 tokens, and a part that has 993 or 994.
        for more, right in ((0, True), (1, False)):
            body = "1 " * (993 - 9 + more)
            full = f"(open m () (do {body}))"
            self.assertEqual(len(full.replace("(", " ( ").replace(")", " ) ").split()), 993 + more)
            if right:
                self.right(1, (1, 0), (), "(open @f () 1)", full, "", full + "(open f () 1)")
            else:
                self.wrong("many", 1, "(open @f () 1)", full)
                # All else goes ahead.
                self.wrong("part", 2, "(open @f () 1)", full)
                self.wrong("used", 1, "(deep @m () 1)", full.replace("open m", "open ^m"))

    def test_too_many_signs(self):
        form = "(open f () 1)"
        for more, right in ((0, True), (1, False)):
            full = ";" * (20000 - len(form) + more)
            if right:
                self.right(1, (0,), (), "(open @f () 1)", full, "", form + full)
            else:
                self.wrong("many", 1, "(open @f () 1)", full)


if __name__ == "__main__":
    unittest.main()
