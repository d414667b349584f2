"""Edits made of wishes, so that no two words run into one."""

import unittest

from helpers import program_of
from turnsame.edits import edited, pieces_of
from turnsame.fitting import ahead_of, behind, fitted_edits, in_place, signs_of, taken, token_rows


class Fitting(unittest.TestCase):
    def check(self, text, wishes, edits, told):
        program = program_of(text)
        self.assertEqual(fitted_edits(token_rows(program), wishes), edits)
        self.assertEqual(edited(program, edits), program_of(told))

    def test_wishes(self):
        rows = token_rows(program_of("a ; one\n (b  c)d"))
        self.assertEqual(signs_of(rows, (0, 1, 4)), "(b  c)")
        self.assertEqual(signs_of(rows, (0, 0, 1)), "a")
        self.assertEqual(in_place(rows, (0, 1, 4), "x y"), (0, 1, 4, [(" ; one\n ", "x"), (" ", "y")]))
        self.assertEqual(taken((0, 1, 4)), (0, 1, 4, []))
        self.assertEqual(ahead_of(0, 1, " (x"), (0, 1, 0, [(" ", "("), ("", "x")]))
        self.assertEqual(behind((0, 1, 4)), 5)

    def test_a_first_word(self):
        self.check("a(b)c", [(0, 1, 3, pieces_of("x"))], [(0, 1, 4, " x c")], "a x c")
        self.check("a(b)(c)", [(0, 1, 3, pieces_of("x"))], [(0, 1, 3, " x")], "a x(c)")
        self.check("((b)c)", [(0, 1, 3, pieces_of("x y"))], [(0, 1, 4, "x y c")], "(x y c)")

    def test_nothing_laid(self):
        self.check("a(b)c", [(0, 1, 3, [])], [(0, 1, 4, " c")], "a c")
        self.check("a(b) c", [(0, 1, 3, [])], [(0, 1, 3, "")], "a c")
        self.check("(b)c", [(0, 0, 3, [])], [(0, 0, 3, "")], "c")
        self.check("a(b)", [(0, 1, 3, [])], [(0, 1, 3, "")], "a")

    def test_no_token_taken(self):
        self.check("a(b)c", [(0, 4, 0, pieces_of("x"))], [(0, 4, 1, "x c")], "a(b)x c")
        self.check("a(b)c", [(0, 5, 0, pieces_of("x"))], [(0, 5, 0, " x")], "a(b)c x")
        self.check("a(b)c", [(0, 2, 0, pieces_of(")"))], [(0, 2, 0, ")")], "a()b)c")

    def test_edits_one_behind_the_other(self):
        # The token behind the first edit is another one's.
        self.check("a(b)c", [(0, 4, 1, pieces_of("y")), (0, 1, 3, pieces_of("x"))], [(0, 1, 3, " x"), (0, 4, 1, " y")], "a x y")
        self.check("a(b)c", [(0, 1, 3, []), (0, 4, 1, pieces_of("y"))], [(0, 1, 3, ""), (0, 4, 1, " y")], "a y")
        self.check("a(b)c(d)", [(0, 1, 3, []), (0, 4, 1, [])], [(0, 1, 3, ""), (0, 4, 1, "")], "a(d)")
        self.check("a(b)c(d)e", [(0, 1, 3, []), (0, 4, 1, []), (0, 5, 3, [])], [(0, 1, 3, ""), (0, 4, 1, ""), (0, 5, 4, " e")], "a e")
        # A token taken, too, goes just ahead of the next edit.
        self.check("a(b)c(d)", [(0, 1, 3, []), (0, 5, 3, pieces_of("y"))], [(0, 1, 4, " c"), (0, 5, 3, " y")], "a c y")

    def test_within_what_is_laid(self):
        self.check("(a)", [(0, 2, 0, [("", "x"), ("", "y"), ("", "("), ("", "z")])], [(0, 2, 0, " x y(z")], "(a x y(z)")

    def test_several_parts(self):
        program = program_of("a(b)c", "", "d(e)f")
        wishes = [(2, 1, 3, []), (0, 1, 3, []), (1, 0, 0, pieces_of("x"))]
        self.assertEqual(fitted_edits(token_rows(program), wishes), [(0, 1, 4, " c"), (1, 0, 0, "x"), (2, 1, 4, " f")])


if __name__ == "__main__":
    unittest.main()
