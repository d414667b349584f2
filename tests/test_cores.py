"""Children, paths, ids and canonical functions."""

import unittest

from turnsame.cores import (
    at_path, bound_by, canon, children_of, free_ids, put_at, turned_ids, with_children,
)

ONE, TWO, THREE, FOUR = [("number", number) for number in (1, 2, 3, 4)]

# Each sort of expression, with its children.
SORTS = [
    (("number", 5), ()),
    (("name", 0), ()),
    (("fault", "bad"), ()),
    (("let", 3, ONE, TWO), (ONE, TWO)),
    (("var", 3, ONE, TWO), (ONE, TWO)),
    (("each", 3, ONE, TWO), (ONE, TWO)),
    (("set", 3, ONE), (ONE,)),
    (("do", (ONE,)), (ONE,)),
    (("do", (ONE, TWO, THREE)), (ONE, TWO, THREE)),
    (("if", ONE, TWO, THREE), (ONE, TWO, THREE)),
    (("while", ONE, TWO), (ONE, TWO)),
    (("say", ONE), (ONE,)),
    (("op", "add", (ONE, TWO)), (ONE, TWO)),
    (("op", "not", (ONE,)), (ONE,)),
    (("op", "row", ()), ()),
    (("op", "row", (ONE, TWO, THREE, FOUR)), (ONE, TWO, THREE, FOUR)),
    (("new", 2, (ONE, TWO)), (ONE, TWO)),
    (("get", 2, 1, ONE), (ONE,)),
    (("fun", (), ONE), (ONE,)),
    (("fun", (3, 4), ONE), (ONE,)),
    (("apply", ONE, ()), (ONE,)),
    (("apply", ONE, (TWO, THREE)), (ONE, TWO, THREE)),
    (("call", 7, ()), ()),
    (("call", 7, (ONE, TWO)), (ONE, TWO)),
]


def nested(many, inner):
    """An expression with so many nots around another one."""
    for _ in range(many):
        inner = ("op", "not", (inner,))
    return inner


class Children(unittest.TestCase):
    def test_children(self):
        for e, children in SORTS:
            self.assertEqual(children_of(e), children)
            self.assertIs(type(children_of(e)), tuple)

    def test_with_the_same_children(self):
        for e, children in SORTS:
            self.assertEqual(with_children(e, children), e)

    def test_with_others(self):
        for e, children in SORTS:
            others = tuple(("name", 90 + number) for number in range(len(children)))
            told = with_children(e, others)
            self.assertEqual(children_of(told), others)
            self.assertEqual(with_children(told, children), e)
            self.assertIs(type(told), tuple)
        self.assertEqual(with_children(("apply", ONE, (TWO,)), (THREE, FOUR)), ("apply", THREE, (FOUR,)))
        self.assertEqual(with_children(("let", 5, ONE, TWO), (TWO, ONE)), ("let", 5, TWO, ONE))
        self.assertEqual(with_children(("get", 5, 2, ONE), (TWO,)), ("get", 5, 2, TWO))
        self.assertEqual(with_children(("fun", (5, 6), ONE), (TWO,)), ("fun", (5, 6), TWO))


BODY = (
    "let", 0, ("op", "add", (ONE, TWO)),
    ("apply", ("fun", (1,), ("name", 1)), (("call", 0, (THREE,)), ("do", (("say", ("name", 0)), FOUR)))),
)


class Paths(unittest.TestCase):
    def test_at_path(self):
        for path, e in (
            ((), BODY), ((0,), BODY[2]), ((0, 0), ONE), ((0, 1), TWO), ((1,), BODY[3]), ((1, 0), BODY[3][1]),
            ((1, 0, 0), ("name", 1)), ((1, 1), BODY[3][2][0]), ((1, 1, 0), THREE), ((1, 2, 0, 0), ("name", 0)),
            ((1, 2, 1), FOUR),
        ):
            self.assertEqual(at_path(BODY, path), e)

    def test_paths_that_lead_nowhere(self):
        for path in ((2,), (-1,), (0, 2), (0, -1), (0, 0, 0), (1, 3), (1, 2, 2), (1, 0, 0, 0), (0, 5, 0), (10**39,)):
            self.assertIsNone(at_path(BODY, path))
        for e in (ONE, ("name", 1), ("fault", "bad"), ("op", "row", ()), ("call", 0, ())):
            self.assertIsNone(at_path(e, (0,)))

    def test_put_at(self):
        new = ("name", 99)
        self.assertEqual(put_at(BODY, (), new), new)
        for path in ((0,), (0, 1), (1,), (1, 0), (1, 0, 0), (1, 1), (1, 1, 0), (1, 2, 0, 0), (1, 2, 1)):
            told = put_at(BODY, path, new)
            self.assertEqual(at_path(told, path), new)
            self.assertEqual(put_at(told, path, at_path(BODY, path)), BODY)
        self.assertEqual(put_at(BODY, (0, 1), new)[3], BODY[3])
        self.assertEqual(put_at(("do", (ONE, TWO, THREE)), (1,), new), ("do", (ONE, new, THREE)))

    def test_deep(self):
        deep = nested(400, ONE)
        self.assertEqual(at_path(deep, (0,) * 400), ONE)
        self.assertIsNone(at_path(deep, (0,) * 401))
        self.assertEqual(at_path(put_at(deep, (0,) * 400, TWO), (0,) * 400), TWO)


class Ids(unittest.TestCase):
    def test_bound_by(self):
        for e, _ in SORTS:
            ids = {"let": (3,), "var": (3,), "each": (3,)}.get(e[0], e[1] if e[0] == "fun" else ())
            self.assertEqual(bound_by(e), ids)
            self.assertIs(type(bound_by(e)), tuple)
        self.assertEqual(bound_by(("fun", (9, 2, 5), ONE)), (9, 2, 5))

    def test_free_ids(self):
        n = [("name", number) for number in range(10)]
        for e, ids in (
            (ONE, ()), (n[3], (3,)), (("set", 4, n[2]), (2, 4)), (("op", "row", (n[5], n[2], n[5])), (2, 5)),
            (("let", 1, n[1], n[2]), (1, 2)), (("let", 1, n[2], n[1]), (2,)), (("var", 1, n[1], ("set", 1, n[1])), (1,)),
            (("each", 1, n[0], ("do", (n[1], n[0]))), (0,)), (("fun", (1, 2), ("op", "add", (n[1], n[3]))), (3,)),
            (("fun", (), n[1]), (1,)), (("apply", ("fun", (1,), n[1]), (n[1],)), (1,)),
            (("if", n[3], n[2], n[1]), (1, 2, 3)), (("while", n[3], ("say", n[0])), (0, 3)),
            (("call", 7, (n[9], n[8])), (8, 9)), (("new", 1, (n[9],)), (9,)), (("get", 1, 0, n[4]), (4,)),
            (("fault", "bad"), ()), (("set", 4, ("set", 4, ONE)), (4,)),
        ):
            self.assertEqual(free_ids(e), ids, e)
            self.assertIs(type(free_ids(e)), tuple)

    def test_free_beneath_binders_of_the_same_id(self):
        x = ("name", 1)
        for e, ids in (
            (("let", 1, x, ("let", 1, x, x)), (1,)),
            (("let", 1, ONE, ("let", 1, x, x)), ()),
            (("do", (("let", 1, ONE, x), x)), (1,)),
            (("do", (x, ("let", 1, ONE, x))), (1,)),
            (("fun", (1,), ("fun", (1,), x)), ()),
            (("let", 1, ("fun", (1,), x), ("var", 1, ONE, x)), ()),
            (("op", "add", (("each", 1, x, x), TWO)), (1,)),
        ):
            self.assertEqual(free_ids(e), ids, e)

    def test_free_deep(self):
        self.assertEqual(free_ids(nested(400, ("name", 8))), (8,))

    def test_turned_ids(self):
        e = ("let", 1, ("name", 0), ("var", 2, ("name", 1), ("do", (
            ("set", 2, ("name", 1)), ("each", 3, ("name", 2), ("name", 3)), ("fun", (4, 5), ("name", 5)), ("number", 1)))))
        told = ("let", 11, ("name", 0), ("var", 12, ("name", 11), ("do", (
            ("set", 12, ("name", 11)), ("each", 13, ("name", 12), ("name", 13)), ("fun", (4, 15), ("name", 15)),
            ("number", 1)))))
        ids = {1: 11, 2: 12, 3: 13, 5: 15, 77: 1}
        self.assertEqual(turned_ids(e, ids), told)
        self.assertEqual(ids, {1: 11, 2: 12, 3: 13, 5: 15, 77: 1})
        self.assertEqual(turned_ids(e, {}), e)

    def test_turned_at_once(self):
        e = ("op", "add", (("name", 0), ("let", 1, ("name", 0), ("name", 1))))
        self.assertEqual(
            turned_ids(e, {0: 1, 1: 0}), ("op", "add", (("name", 1), ("let", 0, ("name", 1), ("name", 0)))))

    def test_other_numbers_stay(self):
        e = ("call", 1, (("new", 1, (("get", 1, 1, ("number", 1)),)),))
        self.assertEqual(turned_ids(e, {1: 2}), e)

    def test_turned_deep(self):
        self.assertEqual(at_path(turned_ids(nested(400, ("name", 8)), {8: 9}), (0,) * 400), ("name", 9))


class Canonical(unittest.TestCase):
    def test_canonical_stays(self):
        function = ("deep", 2, ("let", 2, ("let", 3, ("name", 0), ("name", 3)), ("fun", (4, 5), ("op", "add", (
            ("name", 5), ("each", 6, ("name", 1), ("name", 6)))))))
        self.assertEqual(canon(function), function)
        self.assertIs(type(canon(function)), tuple)

    def test_any_ids(self):
        function = ("open", 2, ("let", 40, ("let", 7, ("name", 0), ("name", 7)), ("fun", (9, 3), ("op", "add", (
            ("name", 3), ("each", 2, ("name", 1), ("op", "add", (("name", 2), ("name", 40)))))))))
        self.assertEqual(canon(function), ("open", 2, (
            "let", 2, ("let", 3, ("name", 0), ("name", 3)), ("fun", (4, 5), ("op", "add", (
                ("name", 5), ("each", 6, ("name", 1), ("op", "add", (("name", 6), ("name", 2)))))))))
        )

    def test_alike_ones_beside_one_another(self):
        one = ("let", 5, ("number", 1), ("name", 5))
        self.assertEqual(canon(("function", 0, ("do", (one, one, one)))), ("function", 0, ("do", tuple(
            ("let", number, ("number", 1), ("name", number)) for number in range(3)))))

    def test_alike_ones_within_one_another(self):
        function = ("function", 1, ("let", 5, ("name", 0), ("let", 5, ("name", 5), ("var", 5, ("name", 5), (
            "do", (("set", 5, ("name", 5)), ("fun", (5,), ("name", 5)), ("name", 5)))))))
        self.assertEqual(canon(function), ("function", 1, ("let", 1, ("name", 0), ("let", 2, ("name", 1), (
            "var", 3, ("name", 2), ("do", (("set", 3, ("name", 3)), ("fun", (4,), ("name", 4)), ("name", 3))))))))

    def test_binders_with_the_ids_of_params(self):
        function = ("function", 2, ("op", "add", (("let", 1, ("name", 1), ("name", 1)), ("each", 0, ("name", 1), (
            "op", "add", (("name", 0), ("name", 1)))))))
        self.assertEqual(canon(function), ("function", 2, ("op", "add", (
            ("let", 2, ("name", 1), ("name", 2)), ("each", 3, ("name", 1), ("op", "add", (("name", 3), ("name", 1))))))))

    def test_binders_whose_ids_are_turned_about(self):
        function = ("function", 0, ("let", 1, ONE, ("let", 0, ("name", 1), ("op", "sub", (("name", 0), ("name", 1))))))
        self.assertEqual(canon(function), ("function", 0, (
            "let", 0, ONE, ("let", 1, ("name", 0), ("op", "sub", (("name", 1), ("name", 0)))))))

    def test_deep(self):
        body = ("name", 0)
        for _ in range(300):
            body = ("let", 9, ("number", 1), body)
        told = canon(("function", 1, body))[2]
        for number in range(300):
            self.assertEqual(told[:3], ("let", 1 + number, ("number", 1)))
            told = told[3]
        self.assertEqual(told, ("name", 0))


if __name__ == "__main__":
    unittest.main()
