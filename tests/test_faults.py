"""Programs refused: which fault is told, and where."""

import unittest

from helpers import fault_of, marked_program, program_of

# The token marked by @ can not stand where it stands by the forms alone; at the end: more must come.
CAN_NOT_STAND = """
@x
@1
@)
@let
@record
(@)
(@(
(@f
(@let
(@1
(@
(record @)
(record @(
(record @1
(record @record
(record r @)
(record r @(
(record r @1
(record r @add
(record r a @(
(record r a b c d @e
(record r a b c d @(
(record r a b c d @
(record r a @a
(record r a b @b
(record r a b c @a
(record r a @
(record r r) @r
(record @
(record r @
(function @)
(function @(
(function @function
(function @0
(function @
(function f @x
(function f @)
(function f @
(function f (@(
(function f (@1
(function f (@let
(function f (@
(function f (x @x
(function f (x y @x
(function f (a b c d @e
(function f (a b c d @(
(function f (a b c d @
(function f () @)
(function f () @let
(function f () @A
(function f () @32768
(function f () @-0
(function f () @
(function f () x @x
(function f () 1 @(
(function f () x @
(function f () x) @)
(function f () x) @f
(function f () x) (@function2
(deep @deep
(deep f (x) (@)
(deep f (x) (@(
(deep f (x) (@1
(deep f (x) (@function
(deep f (x) (@record
(deep f (x) (@open
(deep f (x) (@deep
(deep f (x) (@toolongname
(deep f (x) (@
(open f () (let @1
(open f () (let @(
(open f () (let @)
(open f () (let @let
(open f () (let x @)
(open f () (let x 1 @)
(open f () (let x 1 2 @3
(open f () (let x 1 2 @
(open f () (var @2
(open f () (var x @)
(open f () (var x 1 @)
(open f () (var x 1 2 @(
(open f () (each @(
(open f () (each x @)
(open f () (each x 1 @)
(open f () (each x 1 x @1
(open f () (set @1
(open f () (set @set
(open f () (set x @)
(open f () (set x 1 @2
(open f () (do @)
(open f () (do 1 @
(open f () (do 1 @let
(open f () (if @)
(open f () (if 1 @)
(open f () (if 1 2 @)
(open f () (if 1 2 3 @4
(open f () (while @)
(open f () (while 1 @)
(open f () (while 1 2 @3
(open f () (say @)
(open f () (say 1 @2
(open f () (fault @)
(open f () (fault @1
(open f () (fault @fault
(open f () (fault @(
(open f () (fault bad @1
(open f () (fault bad @
(open f () (add @)
(open f () (add 1 @)
(open f () (add 1 2 @3
(open f () (sub 1 @)
(open f () (sub 1 2 @3
(open f () (mul 1 @)
(open f () (mul 1 2 @3
(open f () (div 1 @)
(open f () (div 1 2 @3
(open f () (less 1 @)
(open f () (less 1 2 @3
(open f () (same 1 @)
(open f () (same 1 2 @3
(open f () (at 1 @)
(open f () (at 1 2 @3
(open f () (not @)
(open f () (not 1 @2
(open f () (size @)
(open f () (size 1 @2
(open f () (row 1 2 3 4 5 6 7 8 @9
(open f () (row 1 2 3 4 5 6 7 8 @(
(open f () (row 1 2 3 4 5 6 7 8 @
(open f () (row @row
(open f () (row @
(open f () (new @)
(open f () (new @1
(open f () (new @new
(open f () (new r @
(open f () (new r @new
(open f () (get @)
(open f () (get @1
(open f () (get r @)
(open f () (get r @1
(open f () (get r @(
(open f () (get r a @)
(open f () (get r a 1 @2
(open f () (fun @)
(open f () (fun @x
(open f () (fun (@1
(open f () (fun (@fun
(open f () (fun (@(
(open f () (fun (x @x
(open f () (fun (a b c d @e
(open f () (fun () @)
(open f () (fun () 1 @2
(open f () (fun () 1 @
(open f () (apply @)
(open f () (apply 1 @apply
(open f () (apply 1 2 3 4 5 6 7 8 9 10 @
(open f () (g @
(open f () (g @let
(open f () (g 1 @add
""".strip().split("\n")

# Texts of which each can stand, whatever their names mean.
CAN_STAND = """
(record r a b c d)
(record r r)
(function f (a b c d) 1)
(function f (f) f)
(open f () (do 1))
(open f () (row))
(open f () (row 1 2 3 4 5 6 7 8))
(open f () (fun () 1))
(open f () (fun (a b c d) (fun (a b c d) a)))
(open f () (apply 1))
(open f () (apply 1 2 3 4 5 6 7 8 9))
(open f () (fault call))
""".strip().split("\n")


class WordsThatCanNotStand(unittest.TestCase):
    def assert_marked(self, *texts):
        program, place = marked_program(*texts)
        self.assertEqual(fault_of(program), place, texts)

    def test_each_sort_of_place(self):
        for text in CAN_NOT_STAND:
            self.assertIn("@", text)
            self.assert_marked(text)
            # What stands behind it, and in the parts behind, is no matter.
            if not text.endswith("@"):
                self.assert_marked(text + " ) ( 1 let )", ")")

    def test_each_can_stand(self):
        for text in CAN_STAND:
            self.assertIsNone(fault_of(program_of(text)), text)

    def test_every_cut(self):
        words = (
            "( record r a b ) ( function f ( x y ) ( let z ( new r x y ) ( do ( get r a z ) ( row 1 2 ) "
            "( apply ( fun ( p ) p ) 1 ) ) ) ) ( open g ( ) ( f 1 2 ) )"
        ).split()
        whole = [0]
        deep = 0
        for number, word in enumerate(words):
            deep += {"(": 1, ")": -1}.get(word, 0)
            if deep == 0:
                whole.append(number + 1)
        for many in range(len(words)):
            # Where a form is whole, nothing more must come.
            if many not in whole:
                self.assertEqual(fault_of(program_of(" ".join(words[:many]))), (0, many))
        self.assertIsNone(fault_of(program_of(" ".join(words))))

    def test_the_first_one_part_by_part(self):
        self.assert_marked("(function f () 1)", "(function g () @)", ")")
        self.assert_marked("(function f () 1) (record r a @", ")")
        self.assert_marked("", "", "(record @let a)")


class Parts(unittest.TestCase):
    def test_how_many(self):
        self.assertEqual(fault_of(()), (-1, -1))
        for many in range(1, 7):
            self.assertIsNone(fault_of(program_of(*[""] * many)))
        self.assertEqual(fault_of(program_of(*[""] * 7)), (-1, -1))
        self.assertEqual(fault_of((("A", ")"),) * 7), (-1, -1))

    def test_names(self):
        for name in ("", "A", "let", "apply", "a1", "1", "abcdefghi", "a b", " a", "("):
            self.assertEqual(fault_of(((name, ""),)), (0, -1), name)
            self.assertEqual(fault_of((("a", ""), (name, ""))), (1, -1), name)
        self.assertIsNone(fault_of((("abcdefgh", ""), ("b", ""))))

    def test_an_earlier_name(self):
        self.assertEqual(fault_of((("a", ""), ("b", ""), ("a", ""))), (2, -1))
        self.assertEqual(fault_of((("a", ")"), ("b", ")"), ("b", ")"), ("a", ""))), (2, -1))

    def many_tokens(self, many):
        return "(function f () (do" + " 1" * (many - 9) + "))"

    def test_tokens(self):
        self.assertIsNone(fault_of(program_of(self.many_tokens(1000))))
        self.assertEqual(fault_of(program_of(self.many_tokens(1001))), (0, -1))
        self.assertEqual(fault_of(program_of(")" * 1000)), (0, 0))
        self.assertEqual(fault_of(program_of(")" * 1001)), (0, -1))
        self.assertIsNone(fault_of(program_of(*[self.many_tokens(1000)] * 6)))

    def test_part_by_part(self):
        self.assertEqual(fault_of((("a", ")" * 1001), ("A", ""))), (0, -1))
        self.assertEqual(fault_of((("a", ")"), ("A", ")" * 1001))), (1, -1))
        self.assertEqual(fault_of((("a", ")"), ("b", ")" * 1001), ("A", ""))), (1, -1))

    def test_ahead_of_words(self):
        self.assertEqual(fault_of((("a", ")"), ("b", ""), ("let", ""))), (2, -1))


class Bounds(unittest.TestCase):
    def brackets(self, many):
        """A text with so many brackets within one another."""
        return "(function f () " + "(not " * (many - 1) + "1" + ")" * many

    def test_brackets(self):
        self.assertIsNone(fault_of(program_of(self.brackets(60))))
        self.assertEqual(fault_of(program_of(self.brackets(61))), (0, 5 + 2 * 59))
        self.assertEqual(fault_of(program_of(self.brackets(90))), (0, 5 + 2 * 59))

    def test_the_brackets_of_a_list_of_names(self):
        for many, fault in ((57, None), (58, (0, 5 + 2 * 58 + 2))):
            text = "(function f () " + "(not " * many + "(fun (x) x)" + ")" * many + ")"
            self.assertEqual(fault_of(program_of(text)), fault)

    def test_forms(self):
        form = "(record r a) "
        texts = [form.replace("r a", f"{sign} a") for sign in "abcdefghijklmnopqrstuvwxyz"]
        more = [form.replace("r a", f"z{sign} a") for sign in "abcdefghijklmn"]
        self.assertIsNone(fault_of(program_of("".join(texts + more))))
        self.assertIsNone(fault_of(program_of("".join(texts), "".join(more))))
        self.assertEqual(fault_of(program_of("".join(texts + more) + "(function f () 1)")), (0, 200))
        self.assertEqual(fault_of(program_of("".join(texts), "", "".join(more) + "(open f () 1)")), (2, 70))
        self.assertEqual(fault_of(program_of("".join(texts), "".join(more), "", "(open f () 1)", ")")), (3, 0))
        self.assertEqual(fault_of(program_of("".join(texts), "".join(more), ")")), (2, 0))


# The NAME, or the bracket or thing, that is marked is not as told.
NAMES_NOT_AS_TOLD = [
    # told in its part already
    ("(function f () 1) (function @f () 2)",),
    ("(function f () 1) (deep @f () 2)",),
    ("(open f () 1) (function @f () 2)",),
    ("(deep f () 1) (open @f () 2)",),
    ("(record r a) (record @r b)",),
    ("(record r a) (function r () 1) (record s a) (record @r a)",),
    ("(record r a)", "(record r a) (function f () 1) (function g () 1) (record @r a)"),
    # told open already
    ("(open f () 1)", "(open @f () 1)"),
    ("(open f () 1)", "(function f () 1)", "(open @f () 1)"),
    ("(function f () 1)", "(open f () 1)", "(open @f () 1)"),
    # a local that is not seen
    ("(function f () @x)",),
    ("(function f (x) @f)",),
    ("(function f (x) x) (function g () @x)",),
    ("(function f () (let x @x x))",),
    ("(function f () (do (let x 1 x) @x))",),
    ("(function f () (each x @x x))",),
    ("(function f () (do (fun (x) x) @x))",),
    ("(function f () (var v @v 1))",),
    ("(record r a) (function f () @a)",),
    ("(function f () (add @y x))",),
    # a set of what is no var
    ("(function f () (set @x 1))",),
    ("(function f (x) (set @x 1))",),
    ("(function f () (let x 1 (set @x 1)))",),
    ("(function f () (each x (row) (set @x 1)))",),
    ("(function f () (fun (x) (set @x 1)))",),
    ("(function f () (var x 1 (let x 1 (set @x 1))))",),
    ("(function f () (var x (set @x 1) 1))",),
    # within a fun a var from outside of it
    ("(function f () (var v 1 (fun () @v)))",),
    ("(function f () (var v 1 (fun () (set @v 1))))",),
    ("(function f () (var v 1 (fun () (fun () @v))))",),
    ("(function f () (fun () (var v 1 (fun () @v))))",),
    ("(function f () (let v 1 (var v 2 (fun () @v))))",),
    ("(function f () (var v 1 (do v (set v 2) (fun (w) (add w @v)))))",),
    # calls
    ("(function f () (@g))",),
    ("(function f (g) (@g))",),
    ("(record r a) (function f () (@r 1))",),
    ("(open g () 1) (function f () (@g))",),
    ("(open g () (@g))",),
    ("(open g () 1) (function f () (@g 1 2))",),
    ("(function f () (@g))", "(open g () 1)", "(function g () 1)"),
    ("(function g () 1)", "(open g () 1) (function f () (@g))"),
    # records and fields
    ("(function f () (new @r))",),
    ("(function r () 1) (function f () (new @r))",),
    ("(function f () (get @r a 1))",),
    ("(record r a) (function f (x) (get r @b x))",),
    ("(record r a) (record s b) (function f (x) (get r @b x))",),
    ("(record r a)", "(record r b) (function f (x) (get r @a x))"),
    ("(record r a b)", "(function f (x) (get r @c y))"),
    # too few things
    ("(function g (x) x) (function f () (g @))",),
    ("(function g (x y) x) (function f () (g 1 @))",),
    ("(function g (x y) x) (function f () (g (g 1 2) @))",),
    ("(function g (x y) x) (function f () (g (g 1 @) 2))",),
    ("(record r a) (function f () (new r @))",),
    ("(record r a b c d) (function f () (new r 1 2 3 @))",),
    ("(function g (x y) x) (function f () (g @y))",),
    # too many things
    ("(function g () 1) (function f () (g @1))",),
    ("(function g () 1) (function f () (g @(add 1 2)))",),
    ("(function g (x) 1) (function f () (g 1 @2 y))",),
    ("(function g (x) 1) (function f () (g 1 @(h) y))",),
    ("(function g (x) 1) (function f () (g @y 2))",),
    ("(record r a) (function f () (new r 1 @2))",),
    ("(record r a) (function f () (new r 1 @(new r) 3))",),
    ("(function f () (g 1 2 @3))", "(deep g (x y) x)"),
    # the first one, in the order of tokens
    ("(function f () (add 1 @x)) (function f () 1)",),
    ("(function f () (g 1 @))", "(function g (x y) z)"),
    ("(function f () 1) (function @f () x)", "(open g () 1)", "(open g () 1)"),
    ("(function f () (let x @y (set x 1)))",),
    ("(function f () (get @r b y))",),
]


class NamesThatAreNotAsTold(unittest.TestCase):
    def test_each(self):
        for texts in NAMES_NOT_AS_TOLD:
            program, place = marked_program(*texts)
            self.assertIsNotNone(place, texts)
            self.assertEqual(fault_of(program), place, texts)

    def test_none(self):
        for texts in (
            ("(function f () 1) (record f f)", "(function f () 1) (record f f)"),
            ("(open f () 1)", "(function f () 1)", "(deep f () 1)"),
            ("(function f () (var v 1 (fun () (let v 2 v))))",),
            ("(function f () (var v 1 (let w v (fun () w))))",),
            ("(function f () (fault nobody))",),
            ("(function f () (let x 1 (var x x (set x x))))",),
        ):
            self.assertIsNone(fault_of(program_of(*texts)), texts)


RINGS = [
    ("(function f () (@f))",),
    ("(function f () (fun () (@f)))",),
    ("(function f () (@g)) (function g () (f))",),
    ("(function g () (@f)) (function f () (g))",),
    ("(function f () (@g)) (function g () (h)) (function h () (f))",),
    ("(function f () (@g))", "(function g () (h))", "(function h () (f))"),
    ("(function f () 1) (function g () (do (f) (fun (x) (@h))))", "(function h () (fun () (g)))"),
    # a function that calls into a ring from outside is in none
    ("(function a () (f)) (function f () (@g)) (function g () (f))",),
    ("(function a () (f)) (function f () (do (b) (@g))) (function g () (f)) (function b () 1)",),
    ("(open a () (f)) (deep d () (f))", "(function f () (add 1 (@f)))"),
    # of two rings the first call
    ("(function f () (do (k) (@g))) (function g () (f)) (function k () (k))",),
    ("(function f () (do (k) (k))) (function g () (@g)) (function k () (k))",),
    # a call and one of itself among its things
    ("(function f (x) (let y 1 (@f (f y))))",),
]
NO_RINGS = [
    ("(deep f () (f))",),
    ("(deep f () (g)) (function g () (f))",),
    ("(function f () (g)) (deep g () (h)) (function h () (f))",),
    ("(function f () (g)) (function g () (h)) (function h () (d)) (deep d () (f))",),
    ("(open f () (g)) (function g () (d)) (deep d () (fun () (g)))",),
    ("(function f () (do (g) (g) (h))) (function g () (h)) (function h () 1)",),
    ("(function f () 1)", "(function f () 2) (function g () (f))", "(function h () (f))"),
]


class Rings(unittest.TestCase):
    def test_rings(self):
        for texts in RINGS:
            program, place = marked_program(*texts)
            self.assertIsNotNone(place, texts)
            self.assertEqual(fault_of(program), place, texts)

    def test_no_rings(self):
        for texts in NO_RINGS:
            self.assertIsNone(fault_of(program_of(*texts)), texts)

    def test_a_long_one(self):
        names = [f"f{sign}" for sign in "abcdefghijklmnopqrstuvwxyz"]
        forms = [f"(function {one} () ({other}))" for one, other in zip(names, names[1:])]
        self.assertIsNone(fault_of(program_of(" ".join(forms) + " (function fz () 1)")))
        self.assertEqual(fault_of(program_of(" ".join(forms) + " (function fz () (fa))")), (0, 6))
        self.assertEqual(fault_of(program_of(" ".join(forms) + " (function fz () (fm))")), (0, 12 * 9 + 6))


class OrderOfFaults(unittest.TestCase):
    def test_words_ahead_of_names_ahead_of_rings(self):
        ring = "(function f () (f))"
        name = "(function g () x)"
        word = "(function h () let)"
        self.assertEqual(fault_of(program_of(ring, name, word)), (2, 5))
        self.assertEqual(fault_of(program_of(ring, name)), (1, 5))
        self.assertEqual(fault_of(program_of(ring + name)), (0, 9 + 5))
        self.assertEqual(fault_of(program_of(ring)), (0, 6))
        self.assertEqual(fault_of(program_of(name, word)), (1, 5))
        self.assertEqual(fault_of(program_of(name + word)), (0, 7 + 5))
        self.assertEqual(fault_of((("a", ring), ("b", name), ("c", word), ("D", ""))), (3, -1))

    def test_each_by_part_and_token(self):
        name = "(function g () x)"
        self.assertEqual(fault_of(program_of(name, name)), (0, 5))
        self.assertEqual(fault_of(program_of("", name, name)), (1, 5))
        self.assertEqual(fault_of(program_of("(function f () (f)) (function g () (g))")), (0, 6))

    def test_counts_are_no_matter_for_words(self):
        self.assertEqual(fault_of(program_of("(function g () 1) (function f () (g 1))", "(x")), (1, 1))
        self.assertEqual(fault_of(program_of("(record r a) (function f () (new r 1 2 3 4 5 6 7 8 9))", "x")), (1, 0))


if __name__ == "__main__":
    unittest.main()
