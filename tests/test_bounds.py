"""The bounds that an edited program keeps to."""

import unittest

from helpers import program_of
from turnsame.bounds import bounded_turning, is_bounded
from turnsame.errors import NoTurn


class Bounds(unittest.TestCase):
    def check(self, right, wrong):
        self.assertIs(is_bounded(right), True)
        self.assertIs(is_bounded(wrong), False)

    def names(self, many):
        return [one + other for one in "abcdefg" for other in "abcdefg"][:many]

    def test_forms(self):
        forms = [f"(record r{name} a)" for name in self.names(41)]
        self.check(program_of("".join(forms[:40])), program_of("".join(forms)))
        self.check(program_of("".join(forms[:20]), "".join(forms[20:40])), program_of("".join(forms[:20]), "".join(forms[20:])))

    def test_brackets(self):
        # The form's own bracket is one of them.
        self.check(*[program_of("(open f () " + "(not " * many + "1" + ")" * many + ")") for many in (59, 60)])

    def test_params(self):
        self.check(program_of("(open f (a b c d) 1)"), program_of("(open f (a b c d e) 1)"))
        self.check(program_of("(open f () (fun (a b c d) 1))"), program_of("(open f () (fun (a b c d e) 1))"))

    def test_tokens(self):
        self.check(*[program_of("", "(open f () (do " + "1 " * many + "))") for many in (991, 992)])

    def test_signs(self):
        self.check(program_of("", " " * 20000), program_of("", " " * 20001))

    def test_what_names_mean_is_no_matter(self):
        self.assertIs(is_bounded(program_of("(open f () (g x))")), True)

    def test_turnings(self):
        program = program_of("(open f () 1)", " " * 19999)
        paper = ((), (), (0,), (), ())
        edits = [(1, 0, 0, "(record r a)")]
        self.assertEqual(bounded_turning(program_of("(open f () 1)", ""), 0, 2, edits, paper), (edits, paper))
        with self.assertRaises(NoTurn) as caught:
            bounded_turning(program, 0, 2, edits, paper)
        self.assertEqual((caught.exception.word, caught.exception.part, caught.exception.at), ("many", 0, 2))

    def test_papers(self):
        # What is right by its bounds, but has a paper that is not let by, is told by none.
        program = program_of("(open f () (if 1 2 3))")
        edits = [(0, 7, 1, " (not 1)"), (0, 8, 1, " 3"), (0, 9, 1, " 2")]
        paper = ((), (("flip", 0, ()),), (0,), (), ())
        self.assertEqual(bounded_turning(program, 0, 5, edits, paper), (edits, paper))
        for wrong in (((), (("flip", 0, (0,)),), (0,), (), ()), ((("flip", 0, ()),), (), (0,), (), ())):
            with self.assertRaises(NoTurn) as caught:
                bounded_turning(program, 0, 5, edits, wrong)
            self.assertEqual((caught.exception.word, caught.exception.part, caught.exception.at), ("many", 0, 5))


if __name__ == "__main__":
    unittest.main()
