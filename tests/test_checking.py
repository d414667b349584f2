"""The small checker: papers let by and refused, and papers the other way."""

import itertools
import unittest

from helpers import core_of
from turnsame.checking import back_paper, checked
from turnsame.errors import NoPaper, TurnError
from turnsame.reading import Read


def plain(core, there=(), back=(), opens=()):
    """A paper whose functions and records are 0, 1 and on."""
    return there, back, tuple(range(len(core[0]))), tuple(range(len(core[1]))), opens


ONE = "(record r a b) (open f (x) (let y x (g y))) (function g (a) (new r a 1))"
OTHER = "(record r b a) (open f (x) (let a x (new r 1 a)))"


class Papers(unittest.TestCase):
    def let_by(self, one, other, paper):
        before = repr((one, other, paper))
        self.assertIs(checked(one, other, paper), True)
        back = back_paper(paper)
        self.assertIs(type(back), tuple)
        self.assertIs(checked(other, one, back), True)
        self.assertEqual(back_paper(back), paper)
        self.assertEqual(repr((one, other, paper)), before)

    def refused(self, one, other, paper, side, number):
        with self.assertRaises(TurnError) as caught:
            checked(one, other, paper)
        self.assertIs(type(caught.exception), NoPaper)
        self.assertEqual((caught.exception.side, caught.exception.number), (side, number), paper)

    def refused_both_ways(self, one, other, paper, side, number):
        self.refused(one, other, paper, side, number)
        around = {0: 1, 1: 0, 2: 2}[side]
        self.refused(other, one, back_paper(paper), around, number)


class LetBy(Papers):
    def test_without_steps(self):
        for text in ("", "(record r a)", ONE, OTHER, "(open f () 1) (open g () 1)"):
            self.let_by(core_of(text), core_of(text), plain(core_of(text)))
        self.let_by(core_of(ONE), core_of(ONE.replace("y", "zz"), "; a remark"), plain(core_of(ONE)))

    def test_steps_there(self):
        one, other = core_of("(open f () (let x 1 (add x x)))"), core_of("(open f () (add 1 1))")
        self.let_by(one, other, plain(other, there=(("spread", 0, ()),)))

    def test_steps_back(self):
        one, other = core_of("(open f (p) (add (say p) 1))"), core_of("(open f (p) (let x (say p) (add x 1)))")
        self.let_by(one, other, plain(one, back=(("now", 0, ()),)))

    def test_steps_both_ways(self):
        one = core_of(ONE)
        other = core_of(OTHER)
        there = (("unfold", 0, (1,)), ("lose", 1), ("spread", 0, (1,)), ("fields", 0, (1, 0)))
        self.let_by(one, other, plain(other, there=there))
        self.let_by(one, other, plain(other, there=there[:3], back=there[3:]))

    def test_each_step_is_for_the_core_behind_those_ahead(self):
        one = core_of("(function a () 1) (function b () 2) (function c () 3) (open f () 4)")
        other = core_of("(open f () 4)")
        for there in ((("lose", 0),) * 3, (("lose", 2), ("lose", 1), ("lose", 0)), (("lose", 1), ("lose", 1), ("lose", 0))):
            self.let_by(one, other, plain(other, there=there))
        self.refused(one, other, plain(other, there=(("lose", 0), ("lose", 1), ("lose", 2))), 0, 2)

    def test_functions_laid_otherwise(self):
        forms = ("(open f (p) (g (h p)))", "(function g (a) (fun () (h a)))", "(deep h (a) (say a))")
        one = core_of(" ".join(forms))
        for order in itertools.permutations(range(3)):
            other = core_of(" ".join(forms[number] for number in order))
            paper = ((), (), order, (), ())
            self.let_by(one, other, paper)
            for wrong in itertools.permutations(range(3)):
                if wrong != order:
                    self.refused_both_ways(one, other, ((), (), wrong, (), ()), 2, 2)

    def test_records_laid_otherwise(self):
        records = ("(record p a b)", "(record q a b)", "(record r a b c)")
        function = "(open f (p) (get p a (get q b (new r (new p 1 2) (new q 3 p) 4))))"
        one = core_of(" ".join(records) + function)
        for order in itertools.permutations(range(3)):
            other = core_of(" ".join(records[number] for number in order) + function)
            self.let_by(one, other, ((), (), (0,), order, ()))
            for wrong in itertools.permutations(range(3)):
                if wrong != order:
                    self.refused_both_ways(one, other, ((), (), (0,), wrong, ()), 2, 2)

    def test_opens_laid_otherwise(self):
        text = "(open {} () 1) (open {} () 2) (open {} () 3)"
        one = core_of(text.format("a", "b", "c"))
        self.let_by(one, core_of(text.format("z", "b", "c")), plain(one, opens=(("z", "a"),)))
        self.let_by(one, core_of(text.format("b", "a", "c")), plain(one, opens=(("a", "b"), ("b", "a"))))
        self.let_by(one, core_of(text.format("b", "c", "a")), plain(one, opens=(("a", "c"), ("b", "a"), ("c", "b"))))
        self.let_by(one, core_of(text.format("b", "x", "c")), plain(one, opens=(("b", "a"), ("x", "b"))))
        # A pair of one name twice says that it stays.
        self.let_by(one, one, plain(one, opens=(("a", "a"),)))
        self.let_by(one, one, plain(one, opens=(("a", "a"), ("b", "b"), ("c", "c"))))

    def test_all_at_once(self):
        one = core_of("(record p a) (record q a) (open f () (new p (g))) (function g () (do 1)) (open e () (new q 2))")
        other = core_of("(open e () (new q (do 2))) (record q a) (open z () (new p (g))) (function g () 1) (record p a)")
        there, back = (("flat", 1, ()),), (("flat", 0, (0,)),)
        self.let_by(one, other, (there, back, (2, 0, 1), (1, 0), (("z", "f"),)))

    def test_beyond_the_bounds_of_steps(self):
        body = ("number", 1)
        for _ in range(205):
            body = ("op", "not", (body,))
        core = (("open", 0, body),), (), (("f", 0),)
        self.let_by(core, core, plain(core))
        self.refused(core, core, plain(core, there=(("lose", 0),)), 0, 0)

    def test_four_hundred_steps(self):
        core = core_of("(record r a b) (open f () (get r a (new r 1 2)))")
        step = (("fields", 0, (1, 0)),)
        self.let_by(core, core, plain(core, there=step * 400))
        self.let_by(core, core, plain(core, there=step * 201, back=step * 199))
        self.refused(core, core, plain(core, there=step * 399 + (("fields", 0, (1, 1)),)), 0, 399)
        self.refused(core, core, plain(core, there=step * 399), 2, 2)


class Refused(Papers):
    def setUp(self):
        self.core = core_of("(record r a) (record s a) (open f () (g)) (function g () (do 1))")
        self.good = plain(self.core)

    def with_part(self, number, part):
        return self.good[:number] + (part,) + self.good[number + 1:]

    def test_no_tuple_of_five_tuples(self):
        for thing in (None, True, 0, 5, "", "paper", [], {}, (), ((),) * 4, ((),) * 6, [(), (), (0, 1), (0, 1), ()],
                      list(self.good), {0: ()}, (0, 0, 0, 0, 0), "there"):
            self.refused(self.core, self.core, thing, 2, 0)
        for number in range(5):
            for part in (None, [], list(self.good[number]), {}, "", 0, True):
                self.refused(self.core, self.core, self.with_part(number, part), 2, 0)
        self.refused(self.core, self.core, ((("lose", 9),), (("lose", 9),), (7,), (7,), []), 2, 0)

    def test_steps(self):
        flat, bad = ("flat", 1, ()), ("flat", 0, ())
        for wrong in (bad, None, 0, True, (), [], "flat", ["flat", 1, ()], ("flat", True, ()), ("flat", 1, []), ("lose", 9), {}):
            for number in range(2):
                # A step that is right once alone.
                row = (flat,) * number + (wrong,) + (flat, bad)
                self.refused_both_ways(self.core, self.core, self.with_part(0, row), 0, number)
                self.refused_both_ways(self.core, self.core, self.with_part(1, row), 1, number)
        self.refused(self.core, self.core, self.with_part(0, (flat, flat)), 0, 1)

    def test_which_goes_first(self):
        flat, bad = ("flat", 1, ()), ("flat", 0, ())
        self.refused(self.core, self.core, ((flat, bad), (bad,), (9,), (9,), (9,)), 0, 1)
        self.refused(self.core, self.core, ((flat,), (flat, bad), (9,), (9,), (9,)), 1, 1)
        self.refused(self.core, self.core, ((flat,), (), (0, 1), (0, 1), (9,)), 2, 1)
        self.refused(self.core, self.core, ((flat,), (), (0, 1), (0, 1), ()), 2, 2)
        self.refused(self.core, core_of(""), ((bad,), (bad,), (), (), ()), 0, 0)
        self.refused(self.core, core_of(""), ((), (bad,), (), (), ()), 1, 0)
        self.refused(self.core, core_of(""), ((), (), (), (), ()), 2, 1)

    def test_rows_that_are_none(self):
        for number in (2, 3):
            for row in ((), (0,), (1,), (0, 0), (1, 1), (0, 2), (1, 2), (0, 1, 2), (-1, 0), (0, -1), (False, True), (0, True),
                        (False, 1), ("0", "1"), (None, 0), ((0,), 1), (0, [1]), ({}, 0), (0, 1, 1), (0, 10 ** 39)):
                self.refused_both_ways(self.core, self.core, self.with_part(number, row), 2, 1)

    def test_other_counts(self):
        other = core_of("(record r a) (open f () (g)) (function g () (do 1))")
        for row in ((0,), (0, 1)):
            self.refused_both_ways(self.core, other, self.with_part(3, row), 2, 1)
        other = core_of("(record r a) (record s a) (open f () 1)")
        for row in ((0,), (0, 1)):
            self.refused_both_ways(self.core, other, self.with_part(2, row), 2, 1)

    def test_opens_that_are_none(self):
        one = core_of("(open a () 1) (open b () 2) (open c () 3)")
        other = core_of("(open x () 1) (open y () 2) (open c () 3)")
        self.let_by(one, other, plain(one, opens=(("x", "a"), ("y", "b"))))
        for opens in (
            (("y", "b"), ("x", "a")), (("x", "a"), ("x", "b")), (("x", "a"), ("x", "a")), (("x", "a"), ("y", "a")),
            (("a", "x"), ("b", "y")), (("x", "a"), ("z", "b")), (("x", "z"), ("y", "b")), (("x", "a"), ("y", "y")),
            ("xa", "yb"), (["x", "a"], ["y", "b"]), (("x",), ("y",)), (("x", "a", "a"), ("y", "b")), (("x", "a"), None),
            ((0, 1),), ((None, None),), (("x", 0),), ((0, "a"),), (("x", ("a",)),), (("x", ["a"]),), ({},), ((),), (True,), ("",),
            (("", ""),), (("X", "A"),), (("f", "f"),), ((["x"], "a"),), (({}, "a"),), (("x", {}),), ((0, "a"), ("y", "b")),
        ):
            self.refused_both_ways(one, other, plain(one, opens=opens), 2, 1)

    def test_unlike_opens(self):
        one = core_of("(open a () 1) (open b () 2) (open c () 3)")
        other = core_of("(open x () 1) (open y () 2) (open c () 3)")
        for opens in ((), (("x", "a"),), (("y", "b"),), (("x", "b"), ("y", "a")), (("c", "a"), ("x", "b"), ("y", "c")),
                      (("x", "c"), ("y", "b"))):
            self.refused_both_ways(one, other, plain(one, opens=opens), 2, 2)
        # Two names that are one then.
        other = core_of("(open a () 1) (open b () 2) (open z () 3)")
        self.refused_both_ways(one, other, plain(one, opens=(("z", "a"),)), 2, 2)

    def test_unlike_cores(self):
        for one, other in (
            ("(open f () 1)", "(open f () 2)"), ("(open f () 1)", "(open g () 1)"), ("(open f (x) 1)", "(open f () 1)"),
            ("(deep f () 1)", "(function f () 1)"), ("(record r a)", "(record r a b)"),
            ("(open f (x y) x)", "(open f (x y) y)"), ("(open f () (let x 1 x))", "(open f () (var x 1 x))"),
            ("(open f () (fault a))", "(open f () (fault b))"), ("(open f () (add 1 2))", "(open f () (sub 1 2))"),
            ("(open f () (do 1))", "(open f () 1)"),
        ):
            self.refused_both_ways(core_of(one), core_of(other), plain(core_of(one)), 2, 2)

    def test_steps_that_lead_elsewhere(self):
        one, other = core_of("(open f () (let x 1 (add x x)))"), core_of("(open f () (add 1 1))")
        self.refused_both_ways(one, other, plain(one), 2, 2)
        self.refused_both_ways(one, other, plain(one, back=(("spread", 0, ()),)), 1, 0)
        self.refused_both_ways(one, one, plain(one, there=(("spread", 0, ()),)), 2, 2)
        self.refused_both_ways(one, core_of("(open f () (add 1 2))"), plain(one, there=(("spread", 0, ()),)), 2, 2)


class BackPapers(unittest.TestCase):
    def test_told(self):
        paper = ((("lose", 1), ("flat", 0, (1, 2))), (("param", 2, 0),), (2, 0, 1), (1, 0), (("a", "y"), ("b", "x")))
        before = repr(paper)
        self.assertEqual(back_paper(paper),
                         ((("param", 2, 0),), (("lose", 1), ("flat", 0, (1, 2))), (1, 2, 0), (1, 0), (("x", "b"), ("y", "a"))))
        self.assertEqual(repr(paper), before)
        self.assertEqual(back_paper(((), (), (), (), ())), ((), (), (), (), ()))

    def test_kinds(self):
        told = back_paper(((), (), (1, 0), (0,), (("a", "b"),)))
        self.assertEqual([type(part) for part in told], [tuple] * 5)
        self.assertIs(type(told[4][0]), tuple)

    def test_of_programs_that_are_read(self):
        one = Read((("a", "(open f () (g)) (function g () 1)"),)).core()
        other = Read((("b", "(function h () 1)"), ("a", "(open f () (h))"))).core()
        self.assertIs(checked(one, other, ((), (), (1, 0), (), ())), True)


if __name__ == "__main__":
    unittest.main()
