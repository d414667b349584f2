"""Things that get another name."""

import unittest

from helpers import program_of
from turnings import Turnings
from turnsame.reading import Read
from turnsame.renaming import renamed


class Renaming(Turnings):
    def right(self, name, *texts_and_behind, opens=()):
        """Texts, then as many as they are once more, behind the turning."""
        many = len(texts_and_behind) // 2
        texts, behind = texts_and_behind[:many], texts_and_behind[many:]
        paper = self.turned(renamed, texts, (name,), behind)
        core = Read(program_of(*behind)).core()
        self.assertEqual(paper, ((), (), tuple(range(len(core[0]))), tuple(range(len(core[1]))), opens))

    def wrong(self, word, name, *texts):
        self.refused(renamed, texts, (name,), word)


class Told(Renaming):
    def test_a_function(self):
        for place in ("(function @f (x) x) (open m () (f (f 1)))", "(function f (x) x) (open m () (@f (f 1)))",
                      "(function f (x) x) (open m () (f (@f 1)))"):
            self.right("g", place, "(function g (x) x) (open m () (g (g 1)))")
        self.right("g", "(deep @f (x) (fun () (f x)))", "(deep g (x) (fun () (g x)))")

    def test_a_function_meant_in_other_parts(self):
        self.right("g", "(open m () (f))", "(function @f () 1)", "(open n () (f))", "(open m () (g))", "(function g () 1)", "(open n () (g))")
        # Another one of its name in another part stays.
        self.right("g", "(function f () (fault f)) (open m () (f))", "(function @f () 1) (open n () (f))",
                   "(function f () (fault f)) (open m () (f))", "(function g () 1) (open n () (g))")

    def test_an_open_one(self):
        self.right("g", "(open @f (x) x)", "(open g (x) x)", opens=(("g", "f"),))
        self.right("a", "(open b () 1) (open @f (x) x)", "(open b () 1) (open a (x) x)", opens=(("a", "f"),))

    def test_a_record(self):
        ahead = "(record {r} a b) (open f (x) (do (new {r} 1 2) (get {r} a x) (fun () (new {r} x x))))"
        for number in range(4):
            marked = ahead.replace("{r}", "r")
            spots = [at for at in range(len(marked)) if marked[at:at + 2] == "r " and marked[at - 1] == " "]
            self.right("s", marked[:spots[number]] + "@" + marked[spots[number]:], ahead.replace("{r}", "s"))

    def test_a_field(self):
        self.right("c", "(record r a b) (record s a b) (open f (x) (add (get r @a x) (get s a (get r a x))))",
                   "(record r c b) (record s a b) (open f (x) (add (get r c x) (get s a (get r c x))))")
        self.right("c", "(open f (x) (get r a x))", "(record r @a)", "(open f (x) (get r c x))", "(record r c)")

    def test_a_param(self):
        self.right("z", "(open f (@x y) (add x (var y x (set y y))))", "(open f (z y) (add z (var y z (set y y))))")
        self.right("z", "(open f (x y) (fun (x) (add x @y)))", "(open f (x z) (fun (x) (add x z)))")

    def test_a_let_var_and_each(self):
        for word in ("let", "var", "each"):
            self.right("z", f"(open f (x) ({word} @x (add x 1) (say (add x x))))", f"(open f (x) ({word} z (add x 1) (say (add z z))))")
            self.right("z", f"(open f (x) ({word} y x (let y (say @y) (add y 1))))", f"(open f (x) ({word} z x (let y (say z) (add y 1))))")
        self.right("z", "(open f () (var v 1 (do (set @v 2) (while v (set v (sub v 1))))))",
                   "(open f () (var z 1 (do (set z 2) (while z (set z (sub z 1))))))")

    def test_a_name_of_a_fun(self):
        self.right("z", "(open f (x) (fun (@x y) (add x (fun (x) (add x y)))))", "(open f (x) (fun (z y) (add z (fun (x) (add x y)))))")
        self.right("x", "(open f (x) (fun (a @y) (add a y)))", "(open f (x) (fun (a x) (add a x)))")

    def test_one_that_is_meant_nowhere(self):
        self.right("z", "(open f (@x) 1)", "(open f (z) 1)")
        self.right("z", "(record @r a) (function f () 1)", "(record z a) (function f () 1)")
        self.right("z", "(open f () (let @x 1 2))", "(open f () (let z 1 2))")

    def test_gaps_and_remarks(self):
        self.right("longer", "\n(open f;(x)\n(@x ; x\n)(add;x\nx x) ; x\n) ; x", "\n(open f;(x)\n(longer ; x\n)(add;x\nlonger longer) ; x\n) ; x")
        self.right("f", "(function  longer() 1)(open m()(@longer  ))", "(function  f() 1)(open m()(f  ))")

    def test_edits(self):
        program = program_of("(open m (x)\n  (add (f)(f)))", "(function f () 1)")
        edits, _ = renamed(program, 1, 2, "g")
        self.assertEqual(edits, [(0, 9, 1, "g"), (0, 12, 1, "g"), (1, 2, 1, " g")])

    def test_like_names_of_other_sorts(self):
        self.right("x", "(record r x) (function @f (x) (let x x (get r x x)))", "(record r x) (function x (x) (let x x (get r x x)))")
        self.right("f", "(record r x) (function f (@x) (add x (g x))) (deep g (f) f)",
                   "(record r x) (function f (f) (add f (g f))) (deep g (f) f)")
        self.right("f", "(record @r x) (function f (x) (new r x))", "(record f x) (function f (x) (new f x))")
        self.right("r", "(record r @x) (function f (x) (get r x x))", "(record r r) (function f (x) (get r r x))")

    def test_the_name_that_it_has(self):
        for text in ("(open @f () 1)", "(record r @a)", "(open f (@x) x)", "(deep f () (@f))"):
            self.right(text[text.index("@") + 1], text, text.replace("@", ""))

    def test_a_fault_word_stays(self):
        self.right("z", "(function @f () (fault f))", "(function z () (fault f))")


class Refused(Renaming):
    def test_no_thing(self):
        for text in ("@(open f () 1)", "(@open f () 1)", "(open f @() 1)", "(open f () @1)", "(open f () (@say 1))", "(open f () (fault @x))",
                     "(open f () 1 @)", "(record r a) @(open f () (new r 1))"):
            self.wrong("name", "g", text)
        program = program_of("(open f () 1)")
        for place in ((0, -1), (0, 7), (-1, 0), (1, 0), (0, 1000), (-1, 2), (0, -5), (1, 2), (10 ** 39, 2), (0, 10 ** 39), (0, -10 ** 39)):
            self.refused_at(renamed, program, place, ("g",), "name", place)

    def test_no_name(self):
        for name in ("", "G", "g1", "g g", " g", "ninelette", "open", "do", "record", "at", "-", "1", "(", "g;", "g\n", "row", "abcdefgh" * 100):
            self.wrong("name", name, "(open @f () 1)")
            self.wrong("name", name, "(open f (@x) x)")
        # Ahead of all else, and at the place asked.
        self.wrong("name", "let", "(open f () 1) (open m () (let @x 1 x))")

    def test_used_by_a_function_of_the_part(self):
        self.wrong("used", "g", "(function @f () 1) (function ^g () 2)")
        self.wrong("used", "g", "(deep ^g () 1) (function f () 2) (open m () (@f))")
        self.wrong("used", "g", "(open ^g () 1) (function @f () 2)")
        self.wrong("used", "g", "(deep ^g () 1) (open @f () 2)")
        # In another part, where none would be meant otherwise, it may stand.
        self.right("g", "(function @f () 1)", "(function g () 2)", "(function g () 1)", "(function g () 2)")

    def test_used_by_a_record_of_the_part(self):
        self.wrong("used", "s", "(record ^s a) (record @r a)")
        self.wrong("used", "s", "(record r a) (record ^s a) (open f () (new @r 1))")
        self.right("s", "(record @r a)", "(record s a)", "(record s a)", "(record s a)")

    def test_used_by_an_open_one(self):
        self.wrong("used", "g", "(open @f () 1)", "(open ^g () 2)")
        self.wrong("used", "g", "(open ^g () 1)", "(open @f () 2)")
        # An open one that is meant by a call of another one's new name shades it, but does not use it.
        self.right("g", "(function @f () 1)", "(open g () 2)", "(function g () 1)", "(open g () 2)")
        self.right("g", "(open @f () 1)", "(deep g () 2)", "(open g () 1)", "(deep g () 2)", opens=(("g", "f"),))

    def test_used_twice(self):
        # By one of the own part and by an open one: the least place.
        self.wrong("used", "g", "(open ^g () 1)", "(open @f () 2) (function g () 1)")
        self.wrong("used", "g", "(open @f () 2) (function ^g () 1)", "(open g () 1)")

    def test_used_by_a_param(self):
        self.wrong("used", "y", "(open f (@x ^y) 1)")
        self.wrong("used", "y", "(open f (^y z x) (add y @x))")
        self.wrong("used", "y", "(open f (z) (fun (^y x) (add y @x)))")
        self.wrong("used", "y", "(open f (y) (fun (x ^y) (add y @x)))")
        self.wrong("used", "y", "(open f (y) (let y 1 (fun (@x w ^y) 1)))")
        # That of another form or fun is none.
        self.right("y", "(open f (@x) x) (open g (y) y)", "(open f (y) y) (open g (y) y)")
        self.right("y", "(open f (@x) (do x (fun (y) y)))", "(open f (y) (do y (fun (y) y)))")
        self.right("y", "(open f () (do (fun (@x) x) (fun (y) y)))", "(open f () (do (fun (y) y) (fun (y) y)))")
        self.right("y", "(open f () (do (fun (y) y) (fun (@x) x)))", "(open f () (do (fun (y) y) (fun (y) y)))")
        self.right("y", "(open f () (let @x 1 (fun (y) y)))", "(open f () (let y 1 (fun (y) y)))")
        # Locals of other functions have ids of their own.
        self.right("y", "(open f (@x) x) (open g (a) a)", "(open f (y) y) (open g (a) a)")

    def test_used_by_a_field(self):
        self.wrong("used", "b", "(record r @a ^b)")
        self.wrong("used", "b", "(open f (x) (get r b (get r @a x)))", "(record r c ^b a)")
        self.wrong("used", "d", "(record q a) (record s a) (record r @a b c ^d)")
        self.wrong("used", "b", "(record q a b c d) (record r ^b a) (open f (x) (get r @a x))")
        self.right("b", "(record r @a) (record s b)", "(record r b) (record s b)")

    def test_used_goes_ahead_of_shade(self):
        self.wrong("used", "y", "(open f (@x ^y) (let y 1 x))")
        self.wrong("used", "g", "(open m () (f))", "(function g () 1)", "(function @f () 1) (function ^g () 2)")

    def test_shade_of_a_local_by_one_within(self):
        self.wrong("shade", "y", "(open f (@x) (let y 1 ^x))")
        self.wrong("shade", "y", "(open f (x) (let y 1 (add ^x @x)))")
        self.wrong("shade", "y", "(open f (@x) (fun (y) (say ^x)))")
        self.wrong("shade", "y", "(open f (@x) (each y x (let z 1 ^x)))")
        self.wrong("shade", "y", "(open f () (var @x 1 (do (set x 1) (let y 1 (set ^x 2)))))")
        self.right("y", "(open f (@x) (let y x (add y 1)))", "(open f (y) (let y y (add y 1)))")

    def test_shade_of_a_local_around(self):
        self.wrong("shade", "y", "(open f (y) (let @x 1 ^y))")
        self.wrong("shade", "y", "(open f (y) (let @x y (add x ^y)))")
        self.wrong("shade", "y", "(open f () (var y 1 (let @x 1 (set ^y 2))))")
        self.wrong("shade", "y", "(open f (y) (fun (@x) (add x ^y)))")
        self.right("y", "(open f (y) (let @x y x))", "(open f (y) (let y y y))")
        # Within a fun a var from outside would be meant.
        self.wrong("shade", "y", "(open f (y) (var @x 1 (fun () ^y)))")

    def test_shade_at_the_least_place(self):
        self.wrong("shade", "y", "(open f (y) (let @x 1 (add ^y (let y 2 (add x y)))))")
        self.wrong("shade", "y", "(open f (y) (let @x 1 (add (let y 2 (add ^x y)) y)))")

    def test_shade_of_a_call(self):
        # The new name is told in the calling part.
        self.wrong("shade", "g", "(function @f () 1)", "(function g () 2) (open m () (^f))")
        self.wrong("shade", "g", "(open m () (^f))", "(function g () 2)", "(function @f () 1)")
        # A call of another one would mean this one.
        self.wrong("shade", "g", "(function @f () 1)", "(function g () 2)", "(open m () (^g))")
        self.right("g", "(function g () 2)", "(function @f () 1)", "(open m () (g))", "(function g () 2)", "(function g () 1)", "(open m () (g))")
        # An open one is meant by calls, too, wrongly.
        self.wrong("shade", "g", "(open @f () 1)", "(function g () 2)", "(open m () (^g))")
        self.wrong("shade", "g", "(open g () 1)", "(function @f () 2)", "(open m () (^f))")

    def test_shade_of_a_record(self):
        self.wrong("shade", "s", "(record @r a)", "(record s a) (open m () (new ^r 1))")
        self.wrong("shade", "s", "(record @r a)", "(record s a)", "(open m (x) (get ^s a x))")
        self.wrong("shade", "s", "(open m (x) (get ^r a x))", "(record s a)", "(record @r a)")

    def test_shade_of_calls_at_the_least_place(self):
        self.wrong("shade", "g", "(function @f () 1)", "(function g () 2)", "(open m () (add (^g) (f)))")
        self.wrong("shade", "g", "(function @f () 1) (open n () (f))", "(function g () 2) (open k () (^f))", "(open m () (add (g) (f)))")

    def test_many(self):
        remark = ";" + "x" * 19964 + "\n"
        text = remark + "(open f (@x) (add x (add x x)))"
        self.assertEqual(len(text.replace("@", "")), 19996)
        # Four places: with one sign more at each there are 20,000, with two 20,004.
        self.right("yy", text, text.replace("@", "").replace("(x)", "(yy)").replace(" x", " yy"))
        self.wrong("many", "yyy", text)
        self.wrong("many", "yyy", "(open g () 1)", text)
        # Last of all.
        self.wrong("shade", "yyyyyyyy", remark + "(open f (@x) (let yyyyyyyy 1 ^x))")


if __name__ == "__main__":
    unittest.main()
