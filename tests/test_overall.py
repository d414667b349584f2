"""Steps for a function or a record as a whole: lose, param, fields, lost."""

import itertools
import unittest

from helpers import core_of
from turnsame.cores import right_core
from turnsame.errors import NoStep, TurnError
from turnsame.rules import stepped


class Steps(unittest.TestCase):
    def right(self, step, ahead, behind):
        core = core_of(ahead)
        before = repr(core)
        told = stepped(core, step)
        self.assertEqual(told, core_of(behind), (step, ahead))
        self.assertTrue(right_core(told))
        self.assertEqual(repr(core), before)

    def wrong(self, step, ahead):
        with self.assertRaises(TurnError) as caught:
            stepped(core_of(ahead), step)
        self.assertIs(type(caught.exception), NoStep, (step, ahead))


class Lose(Steps):
    def test_all_greater_numbers_are_one_less(self):
        ahead = "(open a () (c (d 1))) (function b (x) (let y x (d y))) (function c (x) x) (deep d (x) (c (d x))) (open e () (d 1))"
        behind = ahead.replace("(function b (x) (let y x (d y))) ", "")
        self.right(("lose", 1), ahead, behind)
        self.assertEqual(stepped(core_of(ahead), ("lose", 1))[2], (("a", 0), ("e", 3)))

    def test_first_and_last(self):
        self.right(("lose", 0), "(function a () 1) (open b () (fun () (c))) (function c () 2)", "(open b () (fun () (c))) (function c () 2)")
        self.right(("lose", 2), "(open b () (c)) (function c () 2) (deep d (x y) 1)", "(open b () (c)) (function c () 2)")
        self.right(("lose", 0), "(function a () 1)", "")

    def test_records_stay(self):
        self.right(("lose", 0), "(record r a) (function a () (new r 1)) (open b () (get r a 1))", "(record r a) (open b () (get r a 1))")

    def test_wrong(self):
        self.wrong(("lose", 0), "(open a () 1) (function b () 1)")
        self.wrong(("lose", 1), "(open a () (b)) (function b () 1)")
        self.wrong(("lose", 1), "(open a () (fun () (let x (b) x))) (function b () 1)")
        self.wrong(("lose", 0), "(deep a () (a))")
        self.wrong(("lose", 0), "(function a () 1) (function b () (a))")
        self.wrong(("lose", 1), "(function a () 1)")
        self.wrong(("lose", 10 ** 39), "(function a () 1)")
        self.wrong(("lose", 0), "")


class Param(Steps):
    def test_each_k(self):
        for k in range(4):
            names = [name for number, name in enumerate("abcd") if number != k]
            params, sums = " ".join(names), f"(let q {names[0]} (fun (w) (row q w {' '.join(names)})))"
            things = [f"(let z {number} z)" for number in range(4)]
            less = " ".join(thing for number, thing in enumerate(things) if number != k)
            self.right(("param", 1, k), f"(open e () (f {' '.join(things)})) (function f (a b c d) {sums})",
                       f"(open e () (f {less})) (function f ({params}) {sums})")

    def test_the_only_one(self):
        self.right(("param", 0, 0), "(function f (a) 1) (open g () (f 3))", "(function f () 1) (open g () (f))")

    def test_no_call(self):
        self.right(("param", 0, 1), "(deep f (a b) (let x a x))", "(deep f (a) (let x a x))")

    def test_calls_everywhere(self):
        self.right(("param", 2, 0), "(open m (x) (f x (f (let y x y) x))) (deep g (x) (fun (y) (f x (f y (g x))))) (deep f (a b) (f 1 b))",
                   "(open m (x) (f (f x))) (deep g (x) (fun (y) (f (f (g x))))) (deep f (b) (f b))")

    def test_a_call_within_a_thing_that_goes(self):
        self.right(("param", 0, 0), "(function f (a b) b) (open g () (f (f (f 1 2) 3) (f 4 5)))", "(function f (b) b) (open g () (f (f 5)))")

    def test_things_that_read_vars(self):
        self.right(("param", 0, 0), "(function f (a) 1) (open g () (var v 1 (do (set v 2) (f (add v 1)))))",
                   "(function f () 1) (open g () (var v 1 (do (set v 2) (f))))")

    def test_other_functions_stay(self):
        self.right(("param", 1, 0), "(function e (a) a) (function f (a) 1) (open g () (e (f 1)))",
                   "(function e (a) a) (function f () 1) (open g () (e (f)))")

    def test_open_ones(self):
        self.wrong(("param", 0, 0), "(open f (a) 1)")

    def test_a_param_that_stands_in_the_body(self):
        for body in ("a", "(say (row 1 a))", "(fun () a)", "(fun (x) (fun () (add x a)))", "(f a)", "(let x a 1)"):
            self.wrong(("param", 0, 0), f"(deep f (a) {body})".replace("(f a)", "(f (f a))"))
        self.right(("param", 0, 0), "(deep f (a) (let a 1 (fun (b) a)))", "(deep f () (let a 1 (fun (b) a)))")

    def test_things_that_are_not_idle(self):
        for thing in ("(say 1)", "(set v 1)", "(div 1 1)", "(h)", "(fault bad)", "(apply 1)", "(while 0 0)", "(at 1 1)"):
            self.wrong(("param", 0, 1), f"(function f (a b) a) (deep h () 1) (open g () (var v 1 (do (f 1 2) (f 1 {thing}))))")
            self.right(("param", 0, 1), f"(function f (a b) a) (deep h () 1) (open g () (var v 1 (f {thing} 1)))",
                       f"(function f (a) a) (deep h () 1) (open g () (var v 1 (f {thing})))")
        self.wrong(("param", 0, 0), "(function f (a) 1) (open g () (fun () (f (say 1))))")
        self.wrong(("param", 0, 0), "(function f (a) 1) (open g () (f (let x (f (say 1)) x)))")

    def test_k_and_functions_that_there_are_not(self):
        self.wrong(("param", 0, 1), "(function f (a) 1)")
        self.wrong(("param", 0, 0), "(function f () 1)")
        self.wrong(("param", 1, 0), "(function f (a) 1)")
        self.wrong(("param", 0, 10 ** 39), "(function f (a) 1)")


class Fields(Steps):
    def test_each_order(self):
        for count in range(1, 5):
            names = "abcd"[:count]
            for order in itertools.permutations(range(count)):
                things = [f"(let z {number} z)" for number in range(count)]
                new = [names[number] for number in order]
                gets = " ".join(f"(get r {name} 1)" for name in names)
                text = "(record q a) (record r {}) (open f () (row (new r {}) {} (get q a (new q 1))))"
                self.right(("fields", 1, order), text.format(" ".join(names), " ".join(things), gets),
                           text.format(" ".join(new), " ".join(things[number] for number in order), gets))

    def test_numbers(self):
        core = core_of("(record r a b c) (open f () (get r a (new r 10 11 12)))")
        self.assertEqual(stepped(core, ("fields", 0, (2, 0, 1)))[0][0][2],
                         ("get", 0, 1, ("new", 0, (("number", 12), ("number", 10), ("number", 11)))))

    def test_news_within_news_and_funs(self):
        self.right(("fields", 0, (1, 0)), "(record r a b) (deep f (x) (new r (new r 1 (fun (y) (new r x y))) (get r b x)))",
                   "(record r b a) (deep f (x) (new r (get r b x) (new r (fun (y) (new r y x)) 1)))")

    def test_one_that_is_not_calm(self):
        for thing in ("(say 1)", "v", "(set v 1)", "(h)", "(fault bad)"):
            text = "(record r {}) (deep h () 1) (open f (p) (var v 1 (new r {})))"
            self.right(("fields", 0, (1, 2, 0)), text.format("a b c", f"p {thing} 3"), text.format("b c a", f"{thing} 3 p"))

    def test_two_that_are_not_calm(self):
        for one, other in (("(say 1)", "(say 2)"), ("v", "v"), ("(set v 1)", "v"), ("(h)", "(fault bad)")):
            for order in ((0, 1, 2), (2, 1, 0)):
                text = "(record r a b c) (deep h () 1) (open f (p) (var v 1 (do (new r 1 2 3) (new r {} p {}))))"
                self.wrong(("fields", 0, order), text.format(one, other))
        self.wrong(("fields", 0, (1, 0)), "(record r a b) (deep f () (fun () (new r (say 1) (say 2))))")

    def test_other_records_are_no_matter(self):
        self.right(("fields", 0, (1, 0)), "(record r a b) (record s a b) (deep f () (new s (say 1) (say 2)))",
                   "(record r b a) (record s a b) (deep f () (new s (say 1) (say 2)))")

    def test_orders_that_are_none(self):
        for order in ((), (0,), (0, 0), (1, 1), (0, 1, 2), (0, 2), (1, 2), (1, 0, 0)):
            self.wrong(("fields", 0, order), "(record r a b)")
        self.wrong(("fields", 1, (0, 1)), "(record r a b)")
        self.wrong(("fields", 0, ()), "")


class Lost(Steps):
    def test_all_greater_numbers_are_one_less(self):
        text = "(record p a) {}(record r a b) (record s a) (open f (x) (get s a (get r b (new s (new r (new p 1) x)))))"
        self.right(("lost", 1), text.format("(record q a b c) "), text.format(""))
        self.right(("lost", 0), "(record r a)", "")
        self.right(("lost", 1), "(record r a) (record s b) (open f () (fun () (new r 1)))", "(record r a) (open f () (fun () (new r 1)))")

    def test_wrong(self):
        self.wrong(("lost", 0), "(record r a) (open f () (new r 1))")
        self.wrong(("lost", 0), "(record r a) (open f (x) (get r a x))")
        self.wrong(("lost", 0), "(record r a) (open f () (fun () (say (new r 1))))")
        self.wrong(("lost", 1), "(record r a)")
        self.wrong(("lost", 10 ** 39), "(record r a)")
        self.wrong(("lost", 0), "(open f () 1)")


if __name__ == "__main__":
    unittest.main()
