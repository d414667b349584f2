"""What is no step, and the bounds of the core that a step tells."""

import unittest

from helpers import core_of
from turnsame.errors import NoStep, TurnError
from turnsame.rules import stepped
from turnsame.steps import is_step

TEXT = """
(record r a b) (record s a)
(open f (p) (do (let x 1 x) (if (not p) 1 2) (g 1 2) (each y p (do 1 2)) (do 5)))
(function g (a b) a)
(function h () (new r 1 2))
"""
# Each is right for the core of TEXT.
RIGHT = (
    ("unfold", 0, (2,)), ("spread", 0, (0,)), ("now", 0, (0,)), ("flip", 0, (1,)), ("flat", 0, ()), ("drop", 0, (), 0),
    ("swap", 0, (), 1), ("part", 0, (3,), 1), ("lose", 2), ("param", 1, 1), ("fields", 0, (1, 0)), ("lost", 1),
)


class NoSteps(unittest.TestCase):
    def setUp(self):
        self.core = core_of(TEXT)

    def refused(self, step):
        with self.assertRaises(TurnError) as caught:
            stepped(self.core, step)
        self.assertIs(type(caught.exception), NoStep, step)

    def test_right_ones(self):
        for step in RIGHT:
            self.assertNotEqual(stepped(self.core, step), self.core, step)
            self.assertTrue(is_step(step))

    def test_other_kinds(self):
        for thing in (None, True, False, 0, 7, "", "unfold", "lose", [], (), {}, {"lose": 2}, ((),), [[]], (None,), (1, 2, 3),
                      ([], 0, ()), ({}, 0, ()), ((), 0, ()), (True, 0, ()), (("lose", 2),)):
            self.refused(thing)
            self.assertFalse(is_step(thing))
        deep = ()
        for _ in range(89):
            deep = (deep,)
        self.refused(deep)
        self.refused(("flat", 0, deep))

    def test_lists_in_tuples_places(self):
        for step in RIGHT:
            self.refused(list(step))
            for number, part in enumerate(step):
                if isinstance(part, tuple):
                    self.refused(step[:number] + (list(part),) + step[number + 1:])

    def test_other_lengths(self):
        for step in RIGHT:
            for number in range(len(step)):
                self.refused(step[:number])
            for more in (0, (), None, "flat", 1):
                self.refused(step + (more,))

    def test_other_words(self):
        for step in RIGHT:
            for word in ("", "Unfold", "unfold ", "do", "call", "unfolds", "there", None, 0, "swop"):
                self.refused((word,) + step[1:])

    def test_numbers_that_are_none(self):
        for step in RIGHT:
            for number in range(1, len(step)):
                for other in (-1, True, False, None, "0", "", [0], {}, -10 ** 39, (-1,), (True,), (False,), ("0",), (None,), ((),)):
                    self.refused(step[:number] + (other,) + step[number + 1:])

    def test_truths_in_numbers_places(self):
        # Each of these numbers would be right as it is.
        self.refused(("unfold", False, (2,)))
        self.refused(("swap", 0, (), True))
        self.refused(("part", 0, (3,), True))
        self.refused(("part", 0, (3,), True))
        self.refused(("flip", 0, (True,)))
        self.refused(("param", True, 1))
        self.refused(("param", 1, True))
        self.refused(("fields", False, (1, 0)))
        self.refused(("fields", 0, (True, False)))
        self.refused(("fields", 0, (1, False)))
        self.refused(("lost", True))
        self.assertRaises(NoStep, stepped, core_of("(function a () 1) (function b () 1)"), ("lose", True))

    def test_numbers_beyond(self):
        for step in RIGHT:
            for number in range(1, len(step)):
                self.refused(step[:number] + ((9,) if isinstance(step[number], tuple) else 9,) + step[number + 1:])
                self.refused(step[:number] + ((10 ** 39,) if isinstance(step[number], tuple) else 10 ** 39,) + step[number + 1:])

    def test_paths_that_there_are_not(self):
        for rule in ("unfold", "spread", "now", "flip", "flat"):
            for path in ((5,), (0, 2), (2, 0, 0), (4, 0, 0), (1, 3), (0, 1, 0), (10 ** 30,)):
                self.refused((rule, 0, path))
        for rule in ("drop", "swap", "part"):
            for path in ((5,), (0, 0, 0), (3, 1, 2)):
                self.refused((rule, 0, path, 0))

    def test_what_is_handed_in_stays(self):
        core = core_of(TEXT)
        ahead = repr(core)
        for step in RIGHT:
            stepped(core, step)
            before = repr(step)
            self.assertEqual(repr(step), before)
        path = [0]
        self.refused(("spread", 0, path))
        self.assertEqual((repr(core), path), (ahead, [0]))


def row_of(many):
    """An expression of so many, at most nine to a row."""
    if many == 1:
        return ("number", 1)
    left = many - 1
    # As many things as there may be, the first ones as small as can be.
    things = min(8, left)
    first = [("number", 1)] * (things - 1)
    return ("op", "row", tuple(first) + (row_of(left - things + 1),))


def count(e):
    return 1 + sum(count(child) for child in e[2]) if e[0] == "op" else 1


def nots(many, inner):
    for _ in range(many):
        inner = ("op", "not", (inner,))
    return inner


class Bounds(unittest.TestCase):
    def core(self, *bodies):
        return tuple(("deep", 0, body) for body in bodies), (), ()

    def test_row_of(self):
        self.assertEqual([count(row_of(many)) for many in (1, 2, 9, 10, 500, 1200)], [1, 2, 9, 10, 500, 1200])

    def wide(self, many):
        """A body of so many expressions that is no deeper than a few."""
        big = many - 1
        things = tuple(row_of(min(300, big - at)) for at in range(0, big, 300))
        return ("do", things)

    def test_wide(self):
        self.assertEqual(1 + sum(count(thing) for thing in self.wide(3999)[1]), 3999)

    def test_so_many_in_all(self):
        # What flat tells has two expressions less here, in the first function.
        flat = ("do", (("do", (("number", 1), ("number", 2))), ("number", 3)))
        less = ("do", (("number", 1), ("number", 2), ("number", 3)))
        for many, right in ((3996, True), (3997, False), (3998, False), (4400, False)):
            core = self.core(flat, self.wide(many - 100), self.wide(100))
            if right:
                told = stepped(core, ("flat", 0, ()))
                self.assertEqual(told, self.core(less, self.wide(many - 100), self.wide(100)))
            else:
                self.assertRaises(NoStep, stepped, core, ("flat", 0, ()))

    def test_of_what_is_told_alone(self):
        # The core handed in is beyond the bounds, what is told is not.
        core = self.core(("number", 1), self.wide(4450))
        self.assertEqual(stepped(core, ("lose", 1)), self.core(("number", 1)))
        self.assertRaises(NoStep, stepped, core, ("lose", 0))
        core = self.core(self.wide(3), self.wide(4001))
        self.assertRaises(NoStep, stepped, core, ("lose", 0))
        self.assertEqual(stepped(self.core(self.wide(3), self.wide(4000)), ("lose", 0)), self.core(self.wide(4000)))

    def test_a_step_that_tells_more(self):
        # 1 + 39 * 100 + 99 are 4,000 just so, with one more 4,001.
        for more, right in ((99, True), (100, False)):
            body = ("do", (("name", 0),) * 39 + (("number", 1),) * more)
            core = self.core(("let", 0, row_of(100), body))
            if right:
                told = ("do", (row_of(100),) * 39 + (("number", 1),) * more)
                self.assertEqual(stepped(core, ("spread", 0, ())), self.core(told))
            else:
                self.assertRaises(NoStep, stepped, core, ("spread", 0, ()))

    def test_a_spread_of_millions(self):
        body = ("do", (("name", 0),) * 2000)
        core = self.core(("let", 0, self.wide(2000), body))
        self.assertRaises(NoStep, stepped, core, ("spread", 0, ()))

    def test_so_many_within_one_another(self):
        flat = ("do", (("number", 1),))
        for many, right in ((198, True), (199, True), (200, False), (208, False)):
            # Told is the number within so many nots.
            core = self.core(nots(many, flat))
            if right:
                self.assertEqual(stepped(core, ("flat", 0, (0,) * many)), self.core(nots(many, ("number", 1))))
            else:
                self.assertRaises(NoStep, stepped, core, ("flat", 0, (0,) * many))

    def test_within_one_another_in_another_function(self):
        flat = ("do", (("number", 1),))
        for many, right in ((199, True), (200, False)):
            core = self.core(flat, nots(many, ("number", 1)))
            if right:
                self.assertEqual(stepped(core, ("flat", 0, ())), self.core(("number", 1), nots(many, ("number", 1))))
            else:
                self.assertRaises(NoStep, stepped, core, ("flat", 0, ()))

    def test_a_step_that_goes_deeper(self):
        for many, right in ((99, True), (100, False)):
            core = self.core(("let", 0, nots(many, ("number", 1)), nots(100, ("name", 0))))
            if right:
                told = stepped(core, ("spread", 0, ()))
                self.assertEqual(told, self.core(nots(100 + many, ("number", 1))))
                self.assertEqual(stepped(core, ("now", 0, ())), told)
            else:
                self.assertRaises(NoStep, stepped, core, ("spread", 0, ()))
                self.assertRaises(NoStep, stepped, core, ("now", 0, ()))

    def lets(self, many, first):
        """As many lets, each of the name ahead, the first one of a name that is there."""
        body = ("name", first + many)
        for number in reversed(range(many)):
            body = ("let", first + number + 1, ("name", first + number), body)
        return body

    def unfolding(self, many):
        called = ("call", 0, (("number", 1),))
        return (("function", 1, self.lets(many, 0)), ("open", 0, called)), (), (("f", 1),)

    def test_unfolded_deep_ones(self):
        # The lets, the name in the innermost one, and the let of the param.
        told = stepped(self.unfolding(198), ("unfold", 1, ()))
        self.assertEqual(told[0], (("function", 1, self.lets(198, 0)), ("open", 0, ("let", 0, ("number", 1), self.lets(198, 0)))))
        self.assertRaises(NoStep, stepped, self.unfolding(199), ("unfold", 1, ()))
        self.assertRaises(NoStep, stepped, self.unfolding(209), ("unfold", 1, ()))

    def test_spread_deep_within(self):
        told = stepped(self.unfolding(200), ("spread", 0, (1,) * 150))
        self.assertEqual(told[0][0], ("function", 1, self.lets(199, 0)))
        self.assertRaises(NoStep, stepped, self.unfolding(209), ("spread", 0, (1,) * 150))


if __name__ == "__main__":
    unittest.main()
