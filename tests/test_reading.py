"""Programs read: their cores, things, expressions and names."""

import unittest

from helpers import body_of, core_of, program_of
from turnsame.cores import right_core
from turnsame.reading import Read
from turnsame.tokens import tokens_of

FIRST = """; a part with every sort of form
(record pair left right)
(function f (x y) (add x y))
(deep g (n) (if n (g (sub n 1)) (f n n)))
(open main (a b)
  (let x (new pair a b)          ; let
    (var v (get pair right x)
      (do
        (set v (f a b))
        (while (less v 3) (set v (add v 1)))
        (each i (row 1 -2 b) (say i))
        (apply (fun (p q) (mul p x)) v (g 2))
        (if (not a) (fault bad) (size (row)))
        (at (row a) 0)
        (div (same a b) v)))))
"""
SECOND = "(record one only)(open other () (get one only (new one 7)))"

MAIN = (
    "let", 2, ("new", 0, (("name", 0), ("name", 1))),
    ("var", 3, ("get", 0, 1, ("name", 2)),
     ("do", (
         ("set", 3, ("call", 0, (("name", 0), ("name", 1)))),
         ("while", ("op", "less", (("name", 3), ("number", 3))),
          ("set", 3, ("op", "add", (("name", 3), ("number", 1))))),
         ("each", 4, ("op", "row", (("number", 1), ("number", -2), ("name", 1))), ("say", ("name", 4))),
         ("apply", ("fun", (5, 6), ("op", "mul", (("name", 5), ("name", 2)))), (("name", 3), ("call", 1, (("number", 2),)))),
         ("if", ("op", "not", (("name", 0),)), ("fault", "bad"), ("op", "size", (("op", "row", ()),))),
         ("op", "at", (("op", "row", (("name", 0),)), ("number", 0))),
         ("op", "div", (("op", "same", (("name", 0), ("name", 1))), ("name", 3))),
     ))))
CORE = (
    (
        ("function", 2, ("op", "add", (("name", 0), ("name", 1)))),
        ("deep", 1, ("if", ("name", 0), ("call", 1, (("op", "sub", (("name", 0), ("number", 1))),)),
                     ("call", 0, (("name", 0), ("name", 0))))),
        ("open", 2, MAIN),
        ("open", 0, ("get", 1, 0, ("new", 1, (("number", 7),)))),
    ),
    (2, 1),
    (("main", 2), ("other", 3)),
)


class Cores(unittest.TestCase):
    def test_every_sort(self):
        self.assertEqual(core_of(FIRST, SECOND), CORE)
        self.assertTrue(right_core(CORE))

    def test_no_forms(self):
        for texts in (("",), ("; nothing\n",), ("", "", "", "", "", "")):
            self.assertEqual(core_of(*texts), ((), (), ()))

    def test_gaps_and_remarks_change_nothing(self):
        words = [word for _, word in tokens_of(FIRST)[0]]
        for gap in (" ", "\n", ";x ) (\n", " \n ; one\n;two\n"):
            self.assertEqual(core_of(gap + gap.join(words) + gap, SECOND), CORE)

    def test_names_change_nothing(self):
        words = [word for _, word in tokens_of(FIRST)[0]]
        for one, other in (("pair", "abcdefgh"), ("right", "pair"), ("v", "z"), ("x", "w"), ("g", "x"), ("f", "only")):
            text = " ".join([other if word == one else word for word in words])
            self.assertEqual(core_of(text, SECOND), CORE, (one, other))

    def test_kinds(self):
        waiting = [core_of(FIRST, SECOND)]
        while waiting:
            thing = waiting.pop()
            self.assertIn(type(thing), (tuple, int, str))
            if type(thing) is tuple:
                waiting.extend(thing)

    def test_ids_in_the_order_of_the_walk(self):
        self.assertEqual(
            body_of("(function f (a b) (let x (let y 1 y) (let z x (fun (p q) (each r a (add p r))))))"),
            ("let", 2, ("let", 3, ("number", 1), ("name", 3)),
             ("let", 4, ("name", 2), ("fun", (5, 6), ("each", 7, ("name", 0), ("op", "add", (("name", 5), ("name", 7)))))),
             ))
        self.assertEqual(
            body_of("(function f () (do (var x 1 (set x 2)) (let x 3 x)))"),
            ("do", (("var", 0, ("number", 1), ("set", 0, ("number", 2))), ("let", 1, ("number", 3), ("name", 1)))))

    def test_like_names(self):
        core = core_of("(record a a b) (deep a (a) (let a (new a a (get a a a)) (a (get a b a))))")
        self.assertEqual(core, (
            (("deep", 1, ("let", 1, ("new", 0, (("name", 0), ("get", 0, 0, ("name", 0)))),
                          ("call", 0, (("get", 0, 1, ("name", 1)),)))),),
            (2,), ()))

    def test_shading(self):
        self.assertEqual(
            body_of("(function f (x) (let x (add x 1) (let x (add x 2) x)))"),
            ("let", 1, ("op", "add", (("name", 0), ("number", 1))),
             ("let", 2, ("op", "add", (("name", 1), ("number", 2))), ("name", 2))))
        self.assertEqual(
            body_of("(function f (x) (add (let x 1 x) x))"),
            ("op", "add", (("let", 1, ("number", 1), ("name", 1)), ("name", 0))))
        self.assertEqual(
            body_of("(function f (x) (var x x (set x (each x x x))))"),
            ("var", 1, ("name", 0), ("set", 1, ("each", 2, ("name", 1), ("name", 2)))))

    def test_vars_within_a_fun(self):
        self.assertEqual(
            body_of("(function f (x) (fun () (var v x (set v v))))"),
            ("fun", (), ("var", 1, ("name", 0), ("set", 1, ("name", 1)))))
        self.assertEqual(
            body_of("(function f () (var v 1 (fun (v) v)))"),
            ("var", 0, ("number", 1), ("fun", (1,), ("name", 1))))
        self.assertEqual(
            body_of("(function f () (var v 1 (let w v (fun () (fun () w)))))"),
            ("var", 0, ("number", 1), ("let", 1, ("name", 0), ("fun", (), ("fun", (), ("name", 1))))))

    def test_own_part_ahead_of_the_first_one(self):
        core = core_of(
            "(function f () 1) (record r a)",
            "(function f () 2) (function g () (f)) (record r a b) (function h (x) (get r b x))",
            "(function k () (f)) (function m (x) (get r a x))",
            "(function n () (g))",
        )
        self.assertEqual(core[0][2][2], ("call", 1, ()))
        self.assertEqual(core[0][3][2], ("get", 1, 1, ("name", 0)))
        self.assertEqual(core[0][4][2], ("call", 0, ()))
        self.assertEqual(core[0][5][2], ("get", 0, 0, ("name", 0)))
        self.assertEqual(core[0][6][2], ("call", 2, ()))
        self.assertEqual(core[1], (1, 2))

    def test_a_later_part_has_the_only_one(self):
        core = core_of("(function f () (g (new r 1)))", "", "(record r x) (deep g (y) y)")
        self.assertEqual(core[0][0][2], ("call", 1, (("new", 0, (("number", 1),)),)))

    def test_opens_are_sorted_by_name(self):
        core = core_of("(open z () 1) (open b () 2)", "(function q () 1) (open a () 3)")
        self.assertEqual(core[2], (("a", 3), ("b", 1), ("z", 0)))

    def test_open_and_others_of_like_names(self):
        core = core_of("(open f () 1)", "(function f () 2) (function g () (f))")
        self.assertEqual(core[0][2][2], ("call", 1, ()))
        self.assertEqual(core[2], (("f", 0),))

    def test_numbers(self):
        for number in (0, 1, -1, 32767, -32768):
            self.assertEqual(body_of(f"(function f () {number})"), ("number", number))

    def test_sixty_brackets(self):
        body = body_of("(function f () " + "(not " * 59 + "1" + ")" * 59 + ")")
        for _ in range(59):
            self.assertEqual(body[:2], ("op", "not"))
            body = body[2][0]
        self.assertEqual(body, ("number", 1))


TEXTS = (
    "(record r p q) (function f (x) (let y x (g (get r q y)))) (function g (x) (new r x 2))",
    "(open m () (var v 1 (do (set v (f 3)) (fun (z) z) (fault v))))",
)


class Things(unittest.TestCase):
    def read(self):
        return Read(program_of(*TEXTS))

    def test_words(self):
        read = self.read()
        self.assertEqual(read.words(0), TEXTS[0].replace("(", " ( ").replace(")", " ) ").split())
        self.assertEqual(read.words(1), TEXTS[1].replace("(", " ( ").replace(")", " ) ").split())
        self.assertEqual(Read(program_of("")).words(0), [])

    def things_told(self, read, part):
        return {
            at: read.thing_at(part, at) for at in range(-3, 60) if read.thing_at(part, at) is not None
        }

    def test_each_token_of_the_first_part(self):
        # ( record r p q ) ( function f ( x ) ( let y x ( g ( get r q y ) ) ) ) ( function g ( x ) ( new r x 2 ) )
        # 0 1      2 3 4 5 6 7       8 9 10 11 12 13 14 15 16 17 18 19 20 21
        self.assertEqual(self.things_told(self.read(), 0), {
            2: ("record", 0), 3: ("field", 0, 0), 4: ("field", 0, 1),
            8: ("function", 0), 10: ("local", 0, 0), 14: ("local", 0, 1), 15: ("local", 0, 0),
            17: ("function", 1), 20: ("record", 0), 21: ("field", 0, 1), 22: ("local", 0, 1),
            29: ("function", 1), 31: ("local", 1, 0), 35: ("record", 0), 36: ("local", 1, 0),
        })

    def test_each_token_of_the_second_part(self):
        # ( open m ( ) ( var v 1 ( do ( set v ( f 3 ) ) ( fun ( z ) z ) ( fault v ) ) ) )
        # 0 1    2 3 4 5 6   7 8 9 10 11 12 13 14 15 16 17 18 19 20 21 22 23 24
        self.assertEqual(self.things_told(self.read(), 1), {
            2: ("function", 2), 7: ("local", 2, 0), 13: ("local", 2, 0), 15: ("function", 0),
            22: ("local", 2, 1), 24: ("local", 2, 1),
        })

    def test_no_such_token_or_part(self):
        read = self.read()
        for place in ((0, -1), (0, 41), (0, 5000), (1, 31), (2, 0), (-1, 2), (6, 2), (10**39, 10**39)):
            self.assertIsNone(read.thing_at(*place))
            self.assertIsNone(read.node_at(*place))

    def test_places_rise_and_are_all(self):
        read = self.read()
        every = {}
        for part in (0, 1):
            for at in range(len(read.words(part))):
                thing = read.thing_at(part, at)
                if thing is not None:
                    every.setdefault(thing, []).append((part, at))
        self.assertEqual(every[("function", 0)], [(0, 8), (1, 15)])
        self.assertEqual(every[("record", 0)], [(0, 2), (0, 20), (0, 35)])
        for thing, places in every.items():
            self.assertEqual(read.places_of(thing), places)

    def test_places_of_a_function_called_ahead_of_its_form(self):
        read = Read(program_of("(function f () (g)) (function h () (g))", "(function g () (k))", "(function k () 1)"))
        self.assertEqual(read.places_of(("function", 2)), [(0, 6), (0, 15), (1, 2)])
        self.assertEqual(read.places_of(("function", 3)), [(1, 6), (2, 2)])

    def test_no_such_thing(self):
        read = self.read()
        for thing in (("function", 3), ("function", -1), ("record", 1), ("field", 0, 2), ("field", 1, 0),
                      ("local", 0, 2), ("local", 3, 0), ("local", 2, -1), ("part", 0), None, ()):
            self.assertEqual(read.places_of(thing), [])
            self.assertIsNone(read.form_of(thing))

    def test_forms(self):
        read = self.read()
        self.assertEqual(read.form_of(("record", 0)), (0, 0, 6))
        self.assertEqual(read.form_of(("function", 0)), (0, 6, 21))
        self.assertEqual(read.form_of(("function", 1)), (0, 27, 13))
        self.assertEqual(read.form_of(("function", 2)), (1, 0, len(read.words(1))))
        self.assertIsNone(read.form_of(("field", 0, 0)))
        self.assertIsNone(read.form_of(("local", 0, 0)))


class Expressions(unittest.TestCase):
    def test_nodes_and_spans(self):
        read = Read(program_of(*TEXTS))
        told = {at: read.node_at(0, at) for at in range(-2, 60) if read.node_at(0, at) is not None}
        self.assertEqual(told, {
            12: (0, ()), 15: (0, (0,)), 16: (0, (1,)), 18: (0, (1, 0)), 22: (0, (1, 0, 0)),
            33: (1, ()), 36: (1, (0,)), 37: (1, (1,)),
        })
        spans = {node: read.span_of(*node) for node in told.values()}
        self.assertEqual(spans, {
            (0, ()): (0, 12, 14), (0, (0,)): (0, 15, 1), (0, (1,)): (0, 16, 9), (0, (1, 0)): (0, 18, 6),
            (0, (1, 0, 0)): (0, 22, 1), (1, ()): (0, 33, 6), (1, (0,)): (0, 36, 1), (1, (1,)): (0, 37, 1),
        })
        told = {at: read.node_at(1, at) for at in range(-2, 60) if read.node_at(1, at) is not None}
        self.assertEqual(told, {
            5: (2, ()), 8: (2, (0,)), 9: (2, (1,)), 11: (2, (1, 0)), 14: (2, (1, 0, 0)), 16: (2, (1, 0, 0, 0)),
            19: (2, (1, 1)), 24: (2, (1, 1, 0)), 26: (2, (1, 2)),
        })

    def test_children_in_the_order_of_the_core(self):
        read = Read(program_of("(function f (x) (apply x (if 1 2 3) (each i x i) (while 4 5)))"))
        self.assertEqual([read.node_at(0, at) for at in (6, 8, 9, 11, 12, 13, 15, 18, 19, 21, 23, 24)], [
            (0, ()), (0, (0,)), (0, (1,)), (0, (1, 0)), (0, (1, 1)), (0, (1, 2)), (0, (2,)), (0, (2, 0)), (0, (2, 1)),
            (0, (3,)), (0, (3, 0)), (0, (3, 1))])

    def test_no_such_path(self):
        read = Read(program_of(*TEXTS))
        for function, path in ((0, (2,)), (0, (-1,)), (0, (0, 0)), (3, ()), (-1, ()), (2, (1, 3)), (2, (10**39,))):
            self.assertIsNone(read.span_of(function, path))
            self.assertEqual(read.names_at(function, path), [])


class NamesSeen(unittest.TestCase):
    def test_names(self):
        read = Read(program_of("(function f (a b) (let c a (var a c (do a (each b a b) (fun (d a) (add a d))))))"))
        params = [("a", 0), ("b", 1)]
        inner = params + [("c", 2), ("a", 3)]
        for path, names in (
            ((), params), ((0,), params), ((1,), params + [("c", 2)]), ((1, 0), params + [("c", 2)]),
            ((1, 1), inner), ((1, 1, 0), inner), ((1, 1, 1), inner), ((1, 1, 1, 0), inner),
            ((1, 1, 1, 1), inner + [("b", 4)]), ((1, 1, 2), inner), ((1, 1, 2, 0), inner + [("d", 5), ("a", 6)]),
            ((1, 1, 2, 0, 1), inner + [("d", 5), ("a", 6)]),
        ):
            self.assertEqual(read.names_at(0, path), names)

    def test_a_var_from_outside_of_a_fun_is_among_them(self):
        read = Read(program_of("(function f () (var v 1 (fun (x) (fun () x))))"))
        self.assertEqual(read.names_at(0, (1, 0)), [("v", 0), ("x", 1)])
        self.assertEqual(read.names_at(0, (1, 0, 0)), [("v", 0), ("x", 1)])

    def test_none(self):
        read = Read(program_of("(function f () (not 1))"))
        self.assertEqual((read.names_at(0, ()), read.names_at(0, (0,))), ([], []))


class AskersOwn(unittest.TestCase):
    def test_lists_told_and_changed(self):
        read = Read(program_of(*TEXTS))
        core = read.core()
        asks = (
            lambda: read.words(0), lambda: read.places_of(("function", 0)), lambda: read.names_at(0, (1, 0)),
            lambda: read.places_of(("function", 9)), lambda: read.names_at(9, ()),
        )
        for ask in asks:
            ahead = list(ask())
            told = ask()
            self.assertIs(type(told), list)
            told.append("more")
            told[0] = "other"
            self.assertEqual(ask(), ahead)
        self.assertEqual(read.core(), core)
        self.assertEqual(Read(program_of(*TEXTS)).core(), core)

    def test_programs_do_not_touch_one_another(self):
        one = Read(program_of(*TEXTS))
        core, places = one.core(), one.places_of(("function", 0))
        other = Read(program_of("(open f (x) x)"))
        self.assertEqual((one.core(), one.places_of(("function", 0))), (core, places))
        self.assertEqual(other.core(), ((("open", 1, ("name", 0)),), (), (("f", 0),)))
        self.assertEqual(other.words(0), "( open f ( x ) x )".split())

    def test_kinds(self):
        read = Read(program_of(*TEXTS))
        for told in (read.thing_at(0, 2), read.node_at(0, 12), read.node_at(0, 12)[1], read.span_of(0, ()),
                     read.form_of(("record", 0)), read.places_of(("record", 0))[0], read.names_at(0, ())[0]):
            self.assertIs(type(told), tuple)


if __name__ == "__main__":
    unittest.main()
