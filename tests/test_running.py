"""Runs: values, faults, deeds, ticks."""

import unittest

from helpers import core_of, program_of
from turnsame.cores import canon, right_core
from turnsame.errors import NoOpen
from turnsame.reading import Read
from turnsame.running import run

RECORDS = "(record p x y) (record q x) "


def told(text, values=(), bound=0):
    """What a run of (open m ..) tells, records p and q ahead of it."""
    return run(core_of(RECORDS + text), "m", list(values), bound)


def of(e, values=(), bound=0):
    """What a run of an expression tells, its params a, b, c, d as many as values."""
    params = " ".join("abcd"[: len(values)])
    return told(f"(open m ({params}) {e})", values, bound)


class Values(unittest.TestCase):
    def assert_back(self, e, look, values=(), bound=0):
        self.assertEqual(of(e, values, bound), ([], ("back", look)), e)

    def assert_fault(self, e, word, values=(), bound=0):
        self.assertEqual(of(e, values, bound), ([], ("fault", word)), e)

    def test_numbers_and_names(self):
        self.assert_back("7", 7)
        self.assert_back("b", -3, (1, -3))
        self.assert_back("a", (1, 2), ((1, 2),))
        self.assert_back("a", (), ((),))

    def test_sums(self):
        for e, number in (
            ("(add 2 3)", 5), ("(sub 2 3)", -1), ("(mul -4 3)", -12),
            ("(add 32767 1)", -32768), ("(add 32767 32767)", -2), ("(add -32768 -32768)", 0), ("(add -32768 -1)", 32767),
            ("(sub -32768 1)", 32767), ("(sub 32767 -32768)", -1), ("(sub 0 -32768)", -32768), ("(sub 32767 -1)", -32768),
            ("(mul 256 256)", 0), ("(mul 32767 32767)", 1), ("(mul -32768 -32768)", 0), ("(mul 181 182)", -32594),
            ("(mul -32768 -1)", -32768), ("(mul -32768 3)", -32768), ("(mul 16384 2)", -32768), ("(mul 16384 -2)", -32768),
        ):
            self.assert_back(e, number)

    def test_quotients(self):
        for e, number in (
            ("(div 7 2)", 3), ("(div -7 2)", -4), ("(div 7 -2)", -4), ("(div -7 -2)", 3), ("(div 6 -3)", -2),
            ("(div 0 5)", 0), ("(div 1 -32768)", -1), ("(div -32768 -1)", -32768), ("(div -32768 1)", -32768),
            ("(div 32767 -1)", -32767), ("(div -1 32767)", -1),
        ):
            self.assert_back(e, number)
        self.assert_fault("(div 1 0)", "nought")
        self.assert_fault("(div 0 0)", "nought")
        self.assert_fault("(div 1 (row 1))", "nought")
        self.assert_back("(div (row 1) 1)", 0)

    def test_less_same_not(self):
        for e, number in (
            ("(less 1 2)", 1), ("(less 2 2)", 0), ("(less 3 2)", 0), ("(less -1 0)", 1), ("(same 2 2)", 1),
            ("(same 2 -2)", 0), ("(not 0)", 1), ("(not 1)", 0), ("(not -5)", 0),
            ("(same (row 1 2) (row))", 1), ("(same (row 1 2) 0)", 1), ("(same (row 1) 1)", 0), ("(not (row 1))", 1),
            ("(not (new q 1))", 1), ("(not (fun () 1))", 1), ("(less (row 5) 1)", 1), ("(same (new q 1) (fun () 1))", 1),
        ):
            self.assert_back(e, number)
            self.assertIs(type(of(e)[1][1]), int)

    def test_worths(self):
        for e, number in (
            ("(add (row 4) 1)", 1), ("(sub 1 (new q 4))", 1), ("(mul (fun () 1) 9)", 0), ("(add a 1)", 1),
        ):
            self.assert_back(e, number, ((7, 8),) if " a " in e else ())

    def test_rows(self):
        self.assert_back("(row)", ())
        self.assert_back("(row 1 2 3 4 5 6 7 8)", (1, 2, 3, 4, 5, 6, 7, 8))
        self.assert_back("(row a (row 5) (new q 3) (fun () 1) -2)", (0, 0, 0, 0, -2), ((1,),))
        self.assertIs(type(of("(row 1)")[1][1]), tuple)
        for e, number in (("(size (row))", 0), ("(size (row 1 2))", 2), ("(size 5)", 0), ("(size (new p 1 2))", 0),
                          ("(size (fun (x y) 1))", 0), ("(size (row 1 2 3 4 5 6 7 8))", 8)):
            self.assert_back(e, number)

    def test_at(self):
        self.assert_back("(at (row 7 8 9) 0)", 7)
        self.assert_back("(at (row 7 8 9) 2)", 9)
        self.assert_back("(at (row 7 8) (row 1))", 7)
        for e in ("(at (row 7 8) 2)", "(at (row 7 8) -1)", "(at (row) 0)", "(at 5 0)", "(at (new q 1) 0)",
                  "(at (fun () 1) 0)", "(at 0 (row 1))", "(at (row 7) 32767)", "(at (row 7) -32768)"):
            self.assert_fault(e, "range")

    def test_records(self):
        self.assert_back("(get p x (new p 1 2))", 1)
        self.assert_back("(get p y (new p 1 (row 2 3)))", (2, 3))
        self.assert_back("(get q x (get p y (new p 1 (new q 5))))", 5)
        self.assert_back("(new p 1 2)", "thing")
        for e in ("(get p x (new q 1))", "(get q x (new p 1 2))", "(get q x 1)", "(get q x (row 1))", "(get q x (fun () 1))"):
            self.assert_fault(e, "field")

    def test_if(self):
        for test, number in (("1", 1), ("0", 2), ("-1", 1), ("(row 1)", 2), ("(new q 1)", 2), ("(fun () 1)", 2)):
            self.assert_back(f"(if {test} 1 2)", number)
        self.assertEqual(of("(if 0 (say 1) (say 2))"), ([2], ("back", 2)))
        self.assertEqual(of("(if 3 (say 1) (say 2))"), ([1], ("back", 1)))

    def test_let_var_set_do(self):
        self.assert_back("(let x 5 (add x x))", 10)
        self.assert_back("(let x (new q 7) (get q x x))", 7)
        self.assert_back("(var v 1 (do (set v (add v 1)) (set v (mul v 5)) v))", 10)
        self.assert_back("(var v 1 (set v (row 3)))", (3,))
        self.assert_back("(var v 1 (add v (do (set v 5) v)))", 6)
        self.assert_back("(var v 1 (row v (set v 2) v))", (1, 2, 2))
        self.assert_back("(do 1 2 3)", 3)
        self.assert_back("(let x 1 (add (let x 2 x) x))", 3)
        self.assert_back("(var v a (do (set v 9) a))", 4, (4,))

    def test_each(self):
        self.assertEqual(of("(each i (row 3 1 2) (say i))"), ([3, 1, 2], ("back", 0)))
        for e in ("(each i (row) (say i))", "(each i 5 (say i))", "(each i (new q 1) (say i))", "(each i (fun () 1) (say i))"):
            self.assert_back(e, 0)
        self.assert_back("(var v 0 (do (each i (row 1 2 3) (set v (add (mul v 10) i))) v))", 123)
        self.assert_back("(var v (row 1 2) (do (each i v (set v (row))) v))", ())
        self.assertEqual(of("(each i (row 1 2) (each j (row 3 4) (say (row i j))))")[0], [(1, 3), (1, 4), (2, 3), (2, 4)])

    def test_while(self):
        self.assertEqual(of("(while 0 (say 1))"), ([], ("back", 0)))
        self.assertEqual(
            of("(var v 0 (while (less v 3) (do (say v) (set v (add v 1)))))", (), 3), ([0, 1, 2], ("back", 0)))
        self.assertEqual(of("(while (row 1) (say 1))"), ([], ("back", 0)))

    def test_rounds_leave_the_values_ahead_of_them(self):
        self.assert_back("(var v 0 (row 7 (while (less v 2) (set v (add v 1))) v))", (7, 0, 2), (), 2)
        self.assert_back("(row 6 7 (each i (row 1 2 3) (row i i)) 8)", (6, 7, 0, 8))
        self.assert_back("(row 6 7 (each i 5 i) (while 0 1) 8)", (6, 7, 0, 0, 8))

    def test_say(self):
        self.assertEqual(of("(say 5)"), ([5], ("back", 5)))
        self.assertEqual(of("(say (row 5))"), ([(5,)], ("back", (5,))))
        self.assertEqual(of("(get q x (say (new q 3)))"), (["thing"], ("back", 3)))
        self.assertEqual(of("(say (fun () 3))"), (["thing"], ("back", "thing")))
        self.assertEqual(of("(say (say 1))"), ([1, 1], ("back", 1)))

    def test_faults(self):
        self.assertEqual(of("(fault bad)"), ([], ("fault", "bad")))
        self.assertEqual(of("(do (say 1) (fault bad) (say 2))"), ([1], ("fault", "bad")))
        self.assert_fault("(if 1 (fault one) (fault two))", "one")


class Funs(unittest.TestCase):
    def test_apply(self):
        self.assertEqual(of("(apply (fun () 5))", (), 1), ([], ("back", 5)))
        self.assertEqual(of("(apply (fun (x y) (sub x y)) 5 3)", (), 1), ([], ("back", 2)))
        self.assertEqual(of("(let f (fun (x) (fun (y) (sub x y))) (apply (apply f 9) 2))", (), 2), ([], ("back", 7)))

    def test_the_values_of_the_names_around_are_kept(self):
        self.assertEqual(of("(let x 1 (let f (fun () x) (let x 2 (apply f))))", (), 1), ([], ("back", 1)))
        self.assertEqual(of("(var v 1 (let x v (let f (fun () x) (do (set v 2) (apply f)))))", (), 1), ([], ("back", 1)))
        # Each round's fun keeps its own.
        e = """(var g (fun () 0) (do
                 (each i (row 1 2 3) (let old g (set g (fun () (do (say i) (apply old))))))
                 (apply g)))"""
        self.assertEqual(of(e, (), 4), ([3, 2, 1], ("back", 0)))
        self.assertEqual(of("(apply (each i (row 1) i))"), ([], ("fault", "apply")))

    def test_each_apply_has_vars_of_its_own(self):
        e = "(let f (fun (x) (var v x (do (set v (add v 1)) v))) (row (apply f 1) (apply f 1) (apply f 5)))"
        self.assertEqual(of(e, (), 3), ([], ("back", (2, 2, 6))))
        e = "(let f (fun (g n) (var v n (do (if n (apply g g (sub n 1)) 0) (say v)))) (apply f f 3))"
        self.assertEqual(of(e, (), 4), ([0, 1, 2, 3], ("back", 3)))

    def test_the_fault_apply(self):
        for e in ("(apply 5)", "(apply (row 1) 1)", "(apply (new q 1) 1)", "(apply (fun () 1) 1)", "(apply (fun (x) 1))",
                  "(apply (fun (x y) 1) 1)", "(apply (fun (x) 1) 1 2)", "(apply a b)"):
            self.assertEqual(of(e, (1, 2)), ([], ("fault", "apply")), e)

    def test_the_fault_comes_when_all_things_are_reckoned(self):
        self.assertEqual(of("(apply 5 (say 1) (say 2))"), ([1, 2], ("fault", "apply")))
        self.assertEqual(of("(apply 5 (fault other))"), ([], ("fault", "other")))
        self.assertEqual(of("(apply (fault one) (fault other))"), ([], ("fault", "one")))

    def test_the_fault_goes_ahead_of_the_tick(self):
        self.assertEqual(of("(apply 5)", (), 0), ([], ("fault", "apply")))
        self.assertEqual(of("(apply (fun () 5))", (), 0), ([], ("dry",)))


class Order(unittest.TestCase):
    def test_from_left_to_right(self):
        for e in ("(add (say 1) (say 2))", "(div (say 1) (say 2))", "(at (say 1) (say 2))", "(row (say 1) (say 2))",
                  "(new p (say 1) (say 2))", "(let x (say 1) (say 2))", "(var x (say 1) (say 2))", "(do (say 1) (say 2))",
                  "(apply (say 1) (say 2))", "(if (say 1) (say 2) 0)", "(same (say 1) (say 2))"):
            self.assertEqual(of(e)[0], [1, 2], e)
        self.assertEqual(told("(function f (x y z) (say 4)) (open m () (f (say 1) (say 2) (say 3)))")[0], [1, 2, 3, 4])

    def test_things_ahead_of_the_own_fault(self):
        for e, fault in (
            ("(div (say 1) (do (say 2) 0))", "nought"), ("(at (do (say 1) 3) (say 2))", "range"),
            ("(get q x (do (say 1) (say 2)))", "field"), ("(div (fault one) 0)", "one"), ("(div 0 (fault two))", "two"),
            ("(at (row) (fault two))", "two"), ("(row 1 (fault one) (fault two))", "one"),
            ("(new p (div 1 0) (fault two))", "nought"), ("(set v (fault one))", "one"),
        ):
            told_now = of(f"(var v 0 {e})")
            self.assertEqual(told_now[1], ("fault", fault), e)
            if "say" in e:
                self.assertEqual(told_now[0], [1, 2])

    def test_once(self):
        self.assertEqual(of("(let x (say 1) (add x x))"), ([1], ("back", 2)))
        self.assertEqual(told("(function f (x) (add x x)) (open m () (f (say 1)))"), ([1], ("back", 2)))
        self.assertEqual(of("(each i (do (say 1) (row 7 8)) i)")[0], [1])


class Calls(unittest.TestCase):
    def test_functions_take_no_tick(self):
        text = "(function f (x) (mul x 2)) (function g (x) (f (f x))) (open m (a) (g a))"
        self.assertEqual(told(text, (5,), 0), ([], ("back", 20)))

    def test_deep_ones_take_one(self):
        text = "(deep f (n) (if n (add n (f (sub n 1))) 0)) (open m (a) (f a))"
        self.assertEqual(told(text, (4,), 5), ([], ("back", 10)))
        self.assertEqual(told(text, (4,), 4), ([], ("dry",)))

    def test_the_tick_comes_when_things_are_reckoned(self):
        text = "(deep f (x y) (say 3)) (open m () (f (say 1) (say 2)))"
        self.assertEqual(told(text, (), 0), ([1, 2], ("dry",)))
        self.assertEqual(told(text, (), 1), ([1, 2, 3], ("back", 3)))
        self.assertEqual(told("(deep f (x) 1) (open m () (f (fault bad)))", (), 0), ([], ("fault", "bad")))
        self.assertEqual(of("(apply (fun (x) (say 2)) (say 1))", (), 0), ([1], ("dry",)))

    def test_locals_of_a_call_are_its_own(self):
        text = """(function f (x) (var v x (do (set v (add v 1)) v)))
                  (open m (a) (var v a (do (f v) (row v (f 7) a))))"""
        self.assertEqual(told(text, (3,), 0), ([], ("back", (3, 8, 3))))

    def test_rounds(self):
        e = "(var v 0 (while (say (less v 2)) (set v (add v (say 1)))))"
        self.assertEqual(of(e, (), 2), ([1, 1, 1, 1, 0], ("back", 0)))
        # The tick is taken behind the test.
        self.assertEqual(of(e, (), 1), ([1, 1, 1], ("dry",)))
        self.assertEqual(of(e, (), 0), ([1], ("dry",)))
        self.assertEqual(of("(while (fault bad) 1)", (), 0), ([], ("fault", "bad")))
        self.assertEqual(of("(while 1 1)", (), 10000), ([], ("dry",)))

    def test_the_bound_at_which_a_run_is_just_not_dry(self):
        text = """(deep f (n) (do (say n) (if n (f (sub n 1)) 0)))
                  (open m () (var v 0 (do
                    (f 3)
                    (while (less v 4) (do (set v (add v 1)) (say v)))
                    (apply (fun (x) (apply (fun (y) (say y)) x)) 9)
                    (fault end))))"""
        whole = told(text, (), 10000)
        self.assertEqual(whole, ([3, 2, 1, 0, 1, 2, 3, 4, 9], ("fault", "end")))
        self.assertEqual(told(text, (), 10), whole)
        for bound in range(10):
            deeds, end = told(text, (), bound)
            self.assertEqual(end, ("dry",))
            self.assertEqual(deeds, whole[0][: len(deeds)])
        self.assertEqual(told(text, (), 9)[0], whole[0][:-1])
        self.assertEqual(told(text, (), 0)[0], [])


class Opens(unittest.TestCase):
    CORE = core_of("(open one (x) x) (function f () 1) (deep g () 1)", "(open two () 2) (open four (a b c d) d)")

    def test_by_name(self):
        self.assertEqual(run(self.CORE, "one", [7], 0), ([], ("back", 7)))
        self.assertEqual(run(self.CORE, "two", [], 0), ([], ("back", 2)))
        self.assertEqual(run(self.CORE, "four", [1, 2, 3, (4,)], 0), ([], ("back", (4,))))

    def test_no_open(self):
        for name, values in (
            ("f", []), ("g", []), ("three", []), ("", []), ("on", [1]), ("one", []), ("one", [1, 2]), ("two", [1]),
            ("four", [1, 2, 3]), ("four", [1, 2, 3, 4, 5]), ("let", []), ("ONE", [1]),
        ):
            with self.assertRaises(NoOpen):
                run(self.CORE, name, values, 10)
        with self.assertRaises(NoOpen):
            run(((), (), ()), "m", [], 0)

    def test_handed_in_stays(self):
        values = [1, 2, 3, (4, 5)]
        run(self.CORE, "four", values, 0)
        self.assertEqual(values, [1, 2, 3, (4, 5)])

    def test_told_is_the_askers_own(self):
        core = core_of("(open m (x) (do (say x) (say 1)))")
        first = run(core, "m", [5], 0)
        first[0].append("more")
        first[0][0] = "other"
        self.assertEqual(run(core, "m", [5], 0), ([5, 1], ("back", 1)))

    def test_kinds(self):
        for e, bound in (("(say (row 1))", 0), ("(fault bad)", 0), ("(while 1 1)", 0)):
            whole = of(e, (), bound)
            self.assertIs(type(whole), tuple)
            self.assertIs(type(whole[0]), list)
            self.assertIs(type(whole[1]), tuple)


class Deep(unittest.TestCase):
    """A run does not rest on Python's own depth of calls."""

    def test_deep_calls(self):
        text = "(deep f (n) (if n (add 1 (f (sub n 1))) 0)) (open m (a) (f a))"
        self.assertEqual(told(text, (9999,), 10000), ([], ("back", 9999)))
        self.assertEqual(told(text, (10000,), 10000), ([], ("dry",)))
        text = "(deep f (n) (f n)) (open m (a) (f a))"
        self.assertEqual(told(text, (1,), 10000), ([], ("dry",)))

    def test_applies(self):
        e = "(let f (fun (g n) (if n (add 1 (apply g g (sub n 1))) 0)) (apply f f a))"
        self.assertEqual(of(e, (9999,), 10000), ([], ("back", 9999)))
        self.assertEqual(of(e, (9999,), 9999), ([], ("dry",)))

    def test_funs_that_keep_one_another(self):
        e = """(var g (fun (x) x) (var n a (do
                 (while n (do (set n (sub n 1)) (let old g (set g (fun (x) (add 1 (apply old x)))))))
                 (apply g 0))))"""
        self.assertEqual(of(e, (4999,), 9999), ([], ("back", 4999)))
        self.assertEqual(of(e, (4999,), 9998), ([], ("dry",)))

    def test_records_within_one_another(self):
        e = """(var r (new q 0) (var n a (do
                 (while n (do (set n (sub n 1)) (set r (new q r))))
                 r)))"""
        self.assertEqual(of(e, (10000,), 10000), ([], ("back", "thing")))

    def test_rounds(self):
        e = "(var n 0 (do (while (less n a) (set n (add n 1))) n))"
        self.assertEqual(of(e, (10000,), 10000), ([], ("back", 10000)))
        self.assertEqual(of(e, (10000,), 9999), ([], ("dry",)))

    def test_expressions_within_one_another(self):
        shapes = (
            lambda e: ("op", "add", (("number", 1), e)), lambda e: ("op", "add", (e, ("number", 1))),
            lambda e: ("do", (("number", 0), e)), lambda e: ("if", ("number", 1), e, ("number", 0)),
            lambda e: ("say", e), lambda e: ("while", e, ("number", 0)),
            lambda e: ("apply", ("fun", (), e), ()), lambda e: ("new", 0, (e,)), lambda e: ("each", 0, e, ("number", 1)),
        )
        for shape in shapes:
            body = ("number", 0)
            for _ in range(209):
                body = shape(body)
            core = ((canon(("open", 0, body)),), (1,), (("m", 0),))
            self.assertTrue(right_core(core))
            deeds, end = run(core, "m", [], 10000)
            self.assertEqual(end[0], "back")

    def test_lets_within_one_another(self):
        body = ("name", 100)
        for number in range(208, -1, -1):
            body = ("let", number, ("number", number), body)
        core = ((("open", 0, body),), (), (("m", 0),))
        self.assertTrue(right_core(core))
        self.assertEqual(run(core, "m", [], 0), ([], ("back", 100)))

    def test_deep_calls_of_deep_expressions(self):
        # A call 200 expressions deep, a hundred times within itself.
        inner = ("if", ("name", 0), ("call", 0, (("op", "sub", (("name", 0), ("number", 1))),)), ("number", 0))
        for _ in range(200):
            inner = ("op", "add", (("number", 1), inner))
        core = ((("deep", 1, inner), ("open", 1, ("call", 0, (("name", 0),)))), (), (("m", 1),))
        self.assertTrue(right_core(core))
        self.assertEqual(run(core, "m", [99], 100), ([], ("back", 20000)))

    def test_many_expressions(self):
        body = ("do", tuple(("say", ("number", number)) for number in range(2249)))
        core = ((("open", 0, body),), (), (("m", 0),))
        self.assertEqual(run(core, "m", [], 0), (list(range(2249)), ("back", 2248)))

    def test_functions_in_a_row(self):
        names = [f"f{sign}" for sign in "abcdefghijklmnopqrstuvwxyz"]
        forms = [f"(function {one} (x) (add 1 ({other} x)))" for one, other in zip(names, names[1:])]
        text = " ".join(forms) + " (function fz (x) x) (open m (a) (fa a))"
        self.assertEqual(told(text, (5,), 0), ([], ("back", 30)))


class OfReadPrograms(unittest.TestCase):
    def test_several_parts(self):
        read = Read(program_of(
            "(open main (n) (each i (list n) (say (next i))))",
            "(record box thing) (function list (n) (row n (next n))) (function next (n) (get box thing (wrap n)))",
            "(function wrap (n) (new box (add n 1)))",
        ))
        self.assertEqual(run(read.core(), "main", [4], 0), ([5, 6], ("back", 0)))


if __name__ == "__main__":
    unittest.main()
