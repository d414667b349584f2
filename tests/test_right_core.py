"""Of any plain thing it is told whether it is a right core."""

import unittest

from helpers import core_of, program_of
from test_faults import NO_RINGS
from test_reading import CORE
from turnsame.cores import right_core
from turnsame.reading import Read

ONE = ("number", 1)


def of_body(body, head="function", count=0, records=()):
    opens = (("m", 0),) if head == "open" else ()
    return (((head, count, body),), records, opens)


def places_in(thing, path=()):
    """The paths of all things within a thing of tuples."""
    told = [path]
    if isinstance(thing, tuple):
        for number, part in enumerate(thing):
            told.extend(places_in(part, path + (number,)))
    return told


def at(thing, path):
    for number in path:
        thing = thing[number]
    return thing


def changed(thing, path, other):
    if not path:
        return other
    number = path[0]
    return thing[:number] + (changed(thing[number], path[1:], other),) + thing[number + 1:]


class Right(unittest.TestCase):
    def assert_right(self, thing):
        self.assertIs(right_core(thing), True, thing)

    def assert_not(self, thing):
        self.assertIs(right_core(thing), False, thing)

    def test_cores_of_programs(self):
        self.assert_right(((), (), ()))
        self.assert_right(CORE)
        for texts in NO_RINGS:
            self.assert_right(core_of(*texts))

    def test_any_plain_thing(self):
        for thing in (None, True, False, 0, 1, -1, 10**39, "", "core", (), [], {}, [[], [], []], ([], [], []),
                      [(), (), ()], ((), ()), ((), (), (), ()), ((), (), []), ((), [], ()), ([], (), ()), {0: ()},
                      ((), (), {}), ((), (), ""), ("", "", ""), (None, None, None), ((None,), (), ()),
                      ((), (None,), ()), ((), (), (None,)), ((((),),), (), ()), (((), ()), (), ())):
            self.assert_not(thing)

    def test_another_kind_anywhere(self):
        for path in places_in(CORE):
            ahead = at(CORE, path)
            for other in (None, True, False, [], list(ahead) if isinstance(ahead, tuple) else [ahead], {}, "let", "",
                          10**30, -10**30, 1, ()):
                if other != ahead or type(other) is not type(ahead):
                    thing = changed(CORE, path, other)
                    may_fit = isinstance(ahead, (int, str)) and type(other) is type(ahead)
                    if not may_fit and not (other == () and ahead != ()):
                        self.assert_not(thing)

    def test_truths_are_no_numbers(self):
        for truth in (True, False):
            self.assert_not(of_body(("number", truth)))
            self.assert_not(of_body(("name", truth), count=2))
            self.assert_not(of_body(ONE, count=truth))
            self.assert_not(((), (truth,), ()))
            self.assert_not(of_body(("let", truth, ONE, ONE), count=int(truth)))
            self.assert_not(of_body(("fun", (truth,), ONE), count=int(truth)))
            self.assert_not(of_body(("var", int(truth), ONE, ("set", truth, ONE)), count=int(truth)))
            self.assert_not(of_body(("get", 0, truth, ONE), records=(2,)))
            self.assert_not(of_body(("get", truth, 0, ONE), records=(2, 2)))
            self.assert_not(of_body(("new", truth, (ONE,)), records=(1, 1)))
            self.assert_not(((("deep", 0, ONE), ("deep", 0, ("call", truth, ()))), (), ()))
            self.assert_not(((("deep", 0, ONE),) * 2, (), (("m", truth),)))
        self.assert_not(((("open", 0, ONE),), (), (("m", False),)))

    def test_one_left_out_or_one_too_many(self):
        self.assert_right(of_body(("op", "row", ())))
        for path in places_in(CORE[0]):
            thing = at(CORE[0], path)
            if isinstance(thing, tuple) and thing and isinstance(thing[0], str):
                for other in (thing[:-1], thing + (ONE,), thing[1:], (thing[0],), thing + (0,)):
                    self.assert_not((changed(CORE[0], path, other),) + CORE[1:])

    def test_each_sort_alone(self):
        right = [
            ("number", 1), ("number", 32767), ("number", -32768), ("name", 0), ("let", 1, ONE, ("name", 1)),
            ("var", 1, ONE, ("set", 1, ("name", 1))), ("do", (ONE,)), ("do", (ONE, ONE)), ("if", ONE, ONE, ONE),
            ("while", ONE, ONE), ("each", 1, ONE, ("name", 1)), ("say", ONE), ("fault", "bad"),
            ("op", "add", (ONE, ONE)), ("op", "sub", (ONE, ONE)), ("op", "mul", (ONE, ONE)), ("op", "div", (ONE, ONE)),
            ("op", "less", (ONE, ONE)), ("op", "same", (ONE, ONE)), ("op", "at", (ONE, ONE)), ("op", "not", (ONE,)),
            ("op", "size", (ONE,)), ("op", "row", ()), ("op", "row", (ONE,) * 8), ("new", 0, (ONE, ONE)),
            ("get", 0, 1, ONE), ("fun", (), ONE), ("fun", (1, 2, 3, 4), ("name", 4)), ("apply", ONE, ()),
            ("apply", ONE, (ONE,) * 20),
        ]
        for body in right:
            self.assert_right(of_body(body, count=1, records=(2,)))
        wrong = [
            ("number", 32768), ("number", -32769), ("number", "1"), ("name", 1), ("name", -1), ("name", "x"),
            ("let", 0, ONE, ONE), ("let", 2, ONE, ONE), ("let", "x", ONE, ONE), ("let", 1, ("name", 1), ONE),
            ("var", 0, ONE, ONE), ("var", 1, ("set", 1, ONE), ONE), ("set", 0, ONE), ("set", 1, ONE),
            ("let", 1, ONE, ("set", 1, ONE)), ("each", 1, ONE, ("set", 1, ONE)), ("each", 1, ("name", 1), ONE),
            ("fun", (1,), ("set", 1, ONE)), ("do", ()), ("do", [ONE]), ("do", ONE), ("fault", "let"), ("fault", ""),
            ("fault", "Bad"), ("fault", "a" * 9), ("fault", 1), ("op", "add", (ONE,)), ("op", "add", (ONE,) * 3),
            ("op", "not", ()), ("op", "not", (ONE, ONE)), ("op", "row", (ONE,) * 9), ("op", "let", (ONE,)),
            ("op", "plus", (ONE, ONE)), ("op", 1, (ONE, ONE)), ("op", ("add",), (ONE, ONE)), ("row", ()),
            ("add", ONE, ONE), ("new", 0, (ONE,)), ("new", 0, (ONE,) * 3), ("new", 1, (ONE, ONE)), ("new", -1, (ONE, ONE)),
            ("get", 0, 2, ONE), ("get", 0, -1, ONE), ("get", 1, 0, ONE), ("get", -1, 0, ONE), ("fun", (0,), ONE),
            ("fun", (2,), ONE), ("fun", (1, 1), ONE), ("fun", (2, 1), ONE), ("fun", (1, 2, 3, 4, 5), ONE),
            ("fun", [1], ONE), ("fun", 1, ONE), ("fun", ("x",), ONE), ("apply", ONE, ONE), ("apply", ONE, [ONE]),
            ("apply", (), ()), ("call", 1, ()), ("call", -1, ()), ("call", 0, (ONE,)), ("call", "f", (ONE,)),
            ("lets", 1, ONE, ONE), ("", ), (), None, "let", ["number", 1], (("number", 1),), (None, 1), ([], 1),
        ]
        for body in wrong:
            self.assert_not(of_body(body, count=1, records=(2,)))

    def test_ids_one_off(self):
        body = ("let", 2, ("let", 3, ONE, ("name", 3)), ("fun", (4, 5), ("each", 6, ("name", 2), ("name", 6))))
        self.assert_right(of_body(body, count=2))
        for path in places_in(body):
            if type(at(body, path)) is int and path[-1] == 1 and at(body, path[:-1])[0] in ("let", "each") or (
                    path[-2:] in ((1, 0), (1, 1)) and type(at(body, path)) is int):
                for less in (-1, 1):
                    self.assert_not(of_body(changed(body, path, at(body, path) + less), count=2))
        # Binders are numbered from the first child on.
        self.assert_not(of_body(("let", 0, ("let", 2, ONE, ONE), ("let", 1, ONE, ONE))))
        self.assert_right(of_body(("let", 0, ("let", 1, ONE, ONE), ("let", 2, ONE, ONE))))
        self.assert_not(of_body(("let", 1, ONE, ONE), count=2))

    def test_ids_seen(self):
        self.assert_not(of_body(("do", (("let", 0, ONE, ONE), ("name", 0)))))
        self.assert_not(of_body(("do", (("fun", (0,), ONE), ("name", 0)))))
        self.assert_right(of_body(("do", (("let", 0, ONE, ("name", 0)), ONE))))
        self.assert_not(((("function", 1, ONE), ("function", 0, ("name", 0))), (), ()))

    def test_vars_and_funs(self):
        self.assert_not(of_body(("var", 0, ONE, ("fun", (), ("name", 0)))))
        self.assert_not(of_body(("var", 0, ONE, ("fun", (), ("set", 0, ONE)))))
        self.assert_not(of_body(("var", 0, ONE, ("fun", (1,), ("fun", (), ("name", 0))))))
        self.assert_not(of_body(("fun", (), ("var", 0, ONE, ("fun", (), ("name", 0))))))
        self.assert_right(of_body(("fun", (), ("var", 0, ONE, ("set", 0, ("name", 0))))))
        self.assert_right(of_body(("var", 0, ONE, ("do", (("fun", (), ONE), ("name", 0))))))
        self.assert_right(of_body(("let", 0, ONE, ("fun", (), ("fun", (), ("name", 0))))))
        self.assert_right(of_body(("var", 0, ONE, ("let", 1, ("name", 0), ("fun", (), ("name", 1))))))

    def test_functions(self):
        for head in ("function", "deep"):
            self.assert_right(of_body(ONE, head))
        self.assert_right(of_body(ONE, "open"))
        for head in ("record", "let", "", "Function", None, 1, ("deep",), ["deep"]):
            self.assert_not(((("deep", 0, ONE), (head, 0, ONE)), (), ()))
        for count in range(5):
            self.assert_right(of_body(ONE, count=count))
        for count in (-1, 5, 10**39, "1", None, (), []):
            self.assert_not(of_body(ONE, count=count) if isinstance(count, int) else ((("deep", count, ONE),), (), ()))

    def test_records(self):
        for count in range(1, 5):
            self.assert_right(((), (count,), ()))
        for count in (0, 5, -1, "1", None, (1,), [1]):
            self.assert_not(((), (count,), ()))

    def test_calls(self):
        def calling(head, count, es):
            opens = (("m", 1),) if head == "open" else ()
            return ((("deep", 0, ("call", 1, es)), (head, count, ONE)), (), opens)

        self.assert_right(calling("function", 0, ()))
        self.assert_right(calling("deep", 2, (ONE, ONE)))
        self.assert_not(calling("open", 0, ()))
        self.assert_not(calling("deep", 2, (ONE,)))
        self.assert_not(calling("deep", 2, (ONE,) * 3))
        self.assert_not(calling("function", 0, (ONE,)))
        self.assert_not(((("deep", 0, ("call", 1, ())),), (), ()))

    def test_opens(self):
        functions = (("open", 0, ONE), ("deep", 0, ONE), ("open", 0, ONE))
        for opens in ((("a", 0), ("b", 2)), (("a", 2), ("b", 0))):
            self.assert_right((functions, (), opens))
        for opens in (
            (), (("a", 0),), (("b", 2), ("a", 0)), (("a", 0), ("a", 2)), (("a", 0), ("b", 0)), (("a", 0), ("b", 1)),
            (("a", 0), ("b", 1), ("c", 2)), (("a", 0), ("b", 2), ("c", 2)), (("a", 0), ("b", 3)), (("a", 0), ("b", -1)),
            (("let", 0), ("z", 2)), (("", 0), ("b", 2)), (("A", 0), ("b", 2)), (("a", 0, 0), ("b", 2)), (("a",), ("b", 2)),
            (["a", 0], ("b", 2)), (("a", "0"), ("b", 2)), ((0, "a"), (2, "b")), (("a", None), ("b", 2)),
            ("ab", "cd"), [("a", 0), ("b", 2)], {"a": 0, "b": 2}, (("a", 0), None), ((None, 0), ("b", 2)),
        ):
            self.assert_not((functions, (), opens))
        self.assert_not(((("deep", 0, ONE),), (), (("a", 0),)))

    def test_rings(self):
        def call(*numbers):
            return ("do", tuple(("call", number, ()) for number in numbers) + (ONE,))

        def core(*functions):
            return (functions, (), tuple(("m", number) for number, one in enumerate(functions) if one[0] == "open"))

        self.assert_not(core(("function", 0, call(0))))
        self.assert_not(core(("function", 0, ("fun", (), call(0)))))
        self.assert_right(core(("deep", 0, call(0))))
        self.assert_not(core(("function", 0, call(1)), ("function", 0, call(0))))
        self.assert_right(core(("function", 0, call(1)), ("deep", 0, call(0))))
        self.assert_not(core(("open", 0, call(1)), ("function", 0, call(2)), ("function", 0, ("fun", (), call(1)))))
        self.assert_right(core(("function", 0, call(1, 2)), ("function", 0, call(2, 2)), ("function", 0, call())))
        self.assert_not(core(*[("function", 0, call((number + 1) % 40)) for number in range(40)]))
        self.assert_right(core(*[("function", 0, call(*range(number))) for number in range(40)]))

    def test_forty(self):
        deep = ("deep", 0, ONE)
        self.assert_right(((deep,) * 40, (), ()))
        self.assert_right(((), (1,) * 40, ()))
        self.assert_right(((deep,) * 15, (4,) * 25, ()))
        self.assert_not(((deep,) * 41, (), ()))
        self.assert_not(((), (1,) * 41, ()))
        self.assert_not(((deep,) * 16, (4,) * 25, ()))

    def test_beyond_the_bounds_of_programs(self):
        body = ONE
        for _ in range(210):
            body = ("op", "not", (body,))
        self.assert_right(of_body(body))
        self.assert_right(of_body(("do", (ONE,) * 4000)))
        self.assert_right(of_body(("apply", ONE, (ONE,) * 100)))

    def test_deep_things_that_are_none(self):
        thing = ()
        for _ in range(88):
            thing = (thing,)
        self.assert_not(thing)
        self.assert_not(of_body(thing))
        self.assert_not((thing, thing, thing))

    def test_handed_in_stays(self):
        thing = [list(CORE[0]), {"a": [1]}]
        right_core(thing)
        self.assertEqual(thing, [list(CORE[0]), {"a": [1]}])

    def test_read_programs_are_right(self):
        self.assert_right(Read(program_of("(open f (x) (var v x (do (set v 1) v)))")).core())


if __name__ == "__main__":
    unittest.main()
