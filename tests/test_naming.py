"""Pieces named, and names spread."""

import unittest

from helpers import asked_program, program_of
from turnings import Turnings
from turnsame.edits import edited
from turnsame.naming import named, spread
from turnsame.tokens import tokens_of


class Named(Turnings):
    def right(self, name, step, *texts_and_behind):
        """Texts, then as many as they are once more, behind the turning; step is the one back."""
        many = len(texts_and_behind) // 2
        paper = self.turned(named, texts_and_behind[:many], (name,), texts_and_behind[many:])
        self.assertEqual(paper[:2], ((), (step,)))
        self.assertEqual(paper[4], ())

    def wrong(self, word, name, *texts):
        self.refused(named, texts, (name,), word)

    def in_around(self, step, text, behind, ahead="(record r a b) (function f (a b) a) ", function=1):
        """A piece within the open function m, behind forms for what may stand around it."""
        self.right("n", (step, function, ()), f"{ahead}(open m (p) {text})", f"{ahead}(open m (p) {behind})")


class NamedTold(Named):
    def test_at_the_first_place_of_each_sort(self):
        piece = "(say 1)"
        for around in ("(let x {} x)", "(each x {} x)", "(do {} 2)", "(do {})", "(if {} 2 3)", "(say {})", "(get r a {})",
                       "(not {})", "(size {})", "(add {} 2)", "(sub 1 {})", "(mul {} 3)", "(div {} 2)", "(less 1 {})", "(same p {})", "(at {} 0)",
                       "(row {})", "(row 1 2 p {})", "(new r {} 2)", "(new r 1 {})", "(f {} 1)", "(f p {})", "(apply {})", "(apply (fun (x) x) {})",
                       "(apply p {} 2)", "(var v {} v)"):
            self.in_around("now", around.format("@" + piece), f"(let n {piece} {around.format('n')})")

    def test_behind_what_is_not_calm(self):
        for around in ("(add (say 1) {})", "(row 1 (div 1 2) {})", "(new r (say 1) {})", "(f (say 1) {})", "(apply (say 1) {})", "(row (say 1) {} 3)"):
            self.in_around("spread", around.format("@(add p 2)"), f"(let n (add p 2) {around.format('n')})")
            self.refused(named, (f"(record r a b) (function f (a b) a) (open m (p) {around.format('@(say 2)')})",), ("n",), "deed")

    def test_elsewhere(self):
        piece = "(add p 1)"
        for around in ("(let x 1 {})", "(var v 1 {})", "(each x (row 1) {})", "(do 1 {})", "(do 3 {} 2)", "(if p {} 3)", "(if p 2 {})",
                       "(while {} 2)", "(while 0 {})", "(fun (x) {})", "(fun () {})"):
            self.in_around("spread", around.format("@" + piece), f"(let n {piece} {around.format('n')})")

    def test_a_set_around(self):
        self.right("n", ("now", 0, (1,)), "(open m (p) (var v 1 (set v @(say v))))", "(open m (p) (var v 1 (let n (say v) (set v n))))")

    def test_a_body(self):
        self.right("n", ("now", 0, ()), "(open m () @(say 1)) ; tail", "(open m () (let n (say 1) n)) ; tail")
        self.right("p", ("now", 1, ()), "(open a () 1) (deep m (p)\n @p)", "(open a () 1) (deep m (p)\n (let p p p))")
        self.right("n", ("now", 0, ()), "(open m () @7)", "(open m () (let n 7 n))")

    def test_pieces_of_all_sorts(self):
        for piece in ("7", "p", "(let x p x)", "(var v 1 (set v 2))", "(fun () (say 1))", "(row)", "(say p)", "(fault a)", "(while 0 0)", "(each x p x)"):
            self.in_around("now", f"(say @{piece})", f"(let n {piece} (say n))")

    def test_in_the_middle(self):
        self.right("n", ("now", 0, (0, 0, 1)), "(open m (p) (apply (fun (q) (add 1 (mul p @(say q)))) 2))",
                   "(open m (p) (apply (fun (q) (add 1 (let n (say q) (mul p n)))) 2))")

    def test_an_idle_piece_that_reads_a_var(self):
        self.right("n", ("spread", 0, (1,)), "(open m () (var v 1 (do 2 @(add v 1) 3)))", "(open m () (var v 1 (let n (add v 1) (do 2 n 3))))")
        # Another var is set.
        self.right("n", ("spread", 0, (1, 1)), "(open m () (var w 0 (var v 1 (do (set w 2) @v 3))))", "(open m () (var w 0 (var v 1 (let n v (do (set w 2) n 3)))))")
        # It is set around the let, or is another one of the name.
        self.right("n", ("spread", 0, (1, 0)), "(open m () (var v 1 (do (do 1 @v) (set v 2))))", "(open m () (var v 1 (do (let n v (do 1 n)) (set v 2))))")
        self.right("n", ("spread", 0, (1,)), "(open m () (var v 1 (do (var v 2 (set v 3)) @v 3)))", "(open m () (var v 1 (let n v (do (var v 2 (set v 3)) n 3))))")

    def test_names_that_are_free(self):
        # The piece itself may mean one called so.
        self.right("p", ("now", 0, ()), "(open m (p) (say @(add p 1)))", "(open m (p) (let p (add p 1) (say p)))")
        # Bound within.
        self.right("x", ("spread", 0, ()), "(open m () (add (let x (say 1) x) @2))", "(open m () (let x 2 (add (let x (say 1) x) x)))")
        # Bound by the expression right around it, which the piece does not see.
        self.right("x", ("now", 0, ()), "(open m () (let x @(say 1) x))", "(open m () (let x (say 1) (let x x x)))")
        self.right("m", ("now", 0, ()), "(deep m () (say @(m)))", "(deep m () (let m (m) (say m)))")

    def test_gaps(self):
        self.right("n", ("now", 0, (0,)), "(open m () (say ; around\n (add ; piece\n @(row ; inner\n 1) ; two\n 2) ; end\n))",
                   "(open m () (say (let n (row ; inner\n 1) ; around\n (add ; piece\n n ; two\n 2)) ; end\n))")

    def test_two_words_that_would_run_into_one(self):
        program = program_of("(open m()(add(say 1)2))")
        edits, paper = named(program, 0, 7, "n")
        self.assertEqual(edits, [(0, 5, 0, " (let n (say 1)"), (0, 7, 5, " n 2"), (0, 13, 0, ")")])
        self.assertEqual(self.sound(program, edits, paper)[0][1], "(open m() (let n (say 1)(add n 2)))")
        program = program_of("(open m()(add(say 1)(row)))")
        edits, paper = named(program, 0, 7, "n")
        self.assertEqual(edits, [(0, 5, 0, " (let n (say 1)"), (0, 7, 4, " n"), (0, 15, 0, ")")])


class NamedRefused(Named):
    def test_no_piece(self):
        for text in ("@(open m (x) 1)", "(open @m (x) 1)", "(open m (@x) 1)", "(open m () (@say 1))", "(open m () (say 1 @))", "(open m () (let @x 1 x))",
                     "(open m () (var v 1 (set @v 2)))", "(open m () (fun @() 1))", "(open m () (fault @x))", "(record r @a)", "(function f () 1) (open m () (@f))"):
            self.wrong("name", "n", text)
        program = program_of("(open f () 1)", "")
        for place in ((0, -1), (0, 7), (-1, 5), (1, 0), (2, 5), (0, 1000), (10 ** 39, 5), (0, -10 ** 39)):
            self.refused_at(named, program, place, ("n",), "name", place)

    def test_no_name(self):
        for name in ("", "N", "let", "say", "toolongname", "a b", "a1", "(", "n\n", ";"):
            self.wrong("name", name, "(open m () @1)")
            self.wrong("name", name, "(open m () (let x 1 @x))")

    def test_used(self):
        self.wrong("used", "n", "(open m () (let x 1 @^x))")
        self.wrong("used", "n", "(open m () (var x 1 @(add 1 (add ^x x))))")
        self.wrong("used", "n", "(open m () (each x 1 @(fun () ^x)))")
        self.wrong("used", "n", "(open m () (fun (y x) @(add 1 (add ^x y))))")
        self.wrong("used", "n", "(open m () (var v 1 @(set ^v 2)))")
        # Ahead of shade and deed.
        self.wrong("used", "x", "(open m (x) (let x x @(say ^x)))")

    def test_shade(self):
        self.wrong("shade", "p", "(open m (p) (add ^p @1))")
        self.wrong("shade", "p", "(open m (p) (add @1 ^p))")
        self.wrong("shade", "p", "(open m (p) (row @p 2 (fun () ^p) p))")
        self.wrong("shade", "v", "(open m (p) (var v 1 (set ^v @2)))")
        self.wrong("shade", "v", "(open m (p) (var v 1 (do @p (set ^v 2) v)))")
        # One that it binds itself, ahead of it.
        self.wrong("shade", "x", "(open m () (let x 1 @2))")
        self.wrong("shade", "x", "(open m () (fun (y x) @2))")
        self.wrong("shade", "x", "(open m () (each x 1 @2))")
        # Both.
        self.wrong("shade", "x", "(open m (x) (let x ^x @2))")
        # Ahead of set and deed.
        self.wrong("shade", "p", "(open m (p) (var v 1 (do (set v 2) ^p @v)))")
        self.wrong("shade", "p", "(open m (p) (add (say ^p) @(say 2)))")

    def test_set(self):
        self.wrong("set", "n", "(open m () (var v 1 (do (set ^v 2) @v 3)))")
        self.wrong("set", "n", "(open m () (var w 1 (var v 1 (do (set w 2) @(add v 1) (say (set ^v 2)) (set v 3)))))")
        self.wrong("set", "n", "(open m () (var v 1 (add (set ^v 2) @v)))")
        self.wrong("set", "n", "(open m () (var v 1 (while @v (set ^v 2))))")

    def test_deed(self):
        for around in ("(do 1 @{})", "(if 1 @{} 2)", "(if 1 2 @{})", "(while @{} 1)", "(while 0 @{})", "(let x 1 @{})", "(fun () @{})", "(each x 1 @{})", "(add (say 1) @{})"):
            for piece in ("(say 2)", "(fault a)", "(div 1 2)", "(set v 2)", "(apply 1)"):
                if around != "(fun () @{})" or piece != "(set v 2)":
                    self.wrong("deed", "n", f"(open m () (var v 1 {around.format(piece)}))")
        # Set is for an idle piece alone.
        self.wrong("deed", "n", "(open m () (var v 1 (do (set v 2) @(say v))))")

    def test_many_tokens(self):
        for more in (0, 1):
            ones = "1 " * (985 + more)
            told = f"(open m () (let n 2 (do n {ones})))"
            self.assertEqual(len(tokens_of(told)[0]), 1000 + more)
            if more:
                self.wrong("many", "n", f"(open m () (do @2 {ones}))")
                self.wrong("deed", "n", f"(open m () (do {ones} @(say 1)))")
            else:
                self.right("n", ("now", 0, ()), f"(open m () (do @2 {ones}))", told)

    def test_many_signs(self):
        for more in (0, 1):
            tail = ";" * (20000 - len("(open m () (let n 1 n))") + more)
            if more:
                self.wrong("many", "n", "(open m () @1)" + tail)
            else:
                self.right("n", ("now", 0, ()), "(open m () @1)" + tail, "(open m () (let n 1 n))" + tail)

    def test_many_brackets(self):
        for more in (0, 1):
            deep = "(not " * (57 + more) + "3" + ")" * (57 + more)
            if more:
                self.wrong("many", "n", f"(open m () (add @2 {deep}))")
            else:
                self.right("n", ("now", 0, ()), f"(open m () (add @2 {deep}))", f"(open m () (let n 2 (add n {deep})))")

    def test_many_expressions(self):
        # A step tells at most 4,000: here those of the program as it stands.
        parts = [f"(open {name} () (do {'1 ' * 979}))" for name in "abcd"]
        for many in (78, 79):
            ones = "1 " * many
            asked = parts + [f"(open m () (do @2 {ones}))"]
            if 4 * 980 + 2 + many <= 4000:
                self.right("n", ("now", 4, ()), *asked, *parts, f"(open m () (let n 2 (do n {ones})))")
            else:
                self.wrong("many", "n", *asked)


class Spread(Turnings):
    def right(self, step, *texts_and_behind):
        many = len(texts_and_behind) // 2
        paper = self.turned(spread, texts_and_behind[:many], (), texts_and_behind[many:])
        self.assertEqual(paper[:2], ((step,), ()))
        self.assertEqual(paper[4], ())

    def wrong(self, word, *texts):
        self.refused(spread, texts, (), word)


class SpreadTold(Spread):
    def test_a_name_that_stands_nowhere(self):
        self.right(("spread", 0, ()), "(open m (p) @(let x 1 2))", "(open m (p) 2)")
        self.right(("spread", 0, (1,)), "(open m (p) (var v 1 @(let x v (say 2))))", "(open m (p) (var v 1 (say 2)))")

    def test_a_name_that_stands_once(self):
        self.right(("spread", 0, ()), "(open m (p) @(let x (add p 1) (say x)))", "(open m (p) (say (add p 1)))")
        self.right(("spread", 0, ()), "(open m (p) @(let x 1 x))", "(open m (p) 1)")
        self.right(("now", 0, ()), "(open m (p) @(let x (say 1) (add p x)))", "(open m (p) (add p (say 1)))")
        self.right(("now", 0, ()), "(open m (p) @(let x (say 1) x))", "(open m (p) (say 1))")
        self.right(("now", 0, (1,)), "(open m (p) (var v 1 @(let x (set v 2) (add x v))))", "(open m (p) (var v 1 (add (set v 2) v)))")

    def test_a_name_that_stands_often(self):
        self.right(("spread", 0, ()), "(open m (p) @(let x (row p) (do (say x) (while 0 x) (add x x))))",
                   "(open m (p) (do (say (row p)) (while 0 (row p)) (add (row p) (row p))))")
        # An idle one, whose var is not set in the body.
        self.right(("spread", 0, (1,)), "(open m (p) (var v 1 @(let x (add v 1) (do (say x) x))))", "(open m (p) (var v 1 (do (say (add v 1)) (add v 1))))")

    def test_within_funs(self):
        self.right(("spread", 0, ()), "(open m (p) @(let x (add p 1) (fun (q) (fun () (add x q)))))", "(open m (p) (fun (q) (fun () (add (add p 1) q))))")

    def test_set_but_at_its_first_place(self):
        self.right(("now", 0, (1,)), "(open m () (var v 1 @(let x v (add x (set v 2)))))", "(open m () (var v 1 (add v (set v 2))))")

    def test_names_of_the_name(self):
        # The let itself is gone, so the thing's own x is meant.
        self.right(("spread", 0, ()), "(open m (x) @(let x (add x 1) (say x)))", "(open m (x) (say (add x 1)))")
        # Others of the name within stay.
        self.right(("spread", 0, ()), "(open m () @(let x 1 (add x (let x 2 x))))", "(open m () (add 1 (let x 2 x)))")
        self.right(("spread", 0, ()), "(open m () @(let x (let y 1 y) (let y 2 (add x y))))", "(open m () (let y 2 (add (let y 1 y) y)))")

    def test_deeper(self):
        self.right(("spread", 1, (0, 1)), "(open a () 1)", "(open m (p) (say (add 1 @(let x p (add x 1)))))", "(open a () 1)", "(open m (p) (say (add 1 (add p 1))))")

    def test_gaps(self):
        self.right(("spread", 0, (0,)), "(open m (p) (say ; gone\n @(let ; gone\n x (row ; kept\n 1) ; body\n (do ; one\n x ; two\n x) ; gone\n) ; end\n))",
                   "(open m (p) (say ; body\n (do ; one\n (row ; kept\n 1) ; two\n (row ; kept\n 1)) ; end\n))")

    def test_two_words_that_would_run_into_one(self):
        program = program_of("(open m(p)(do(let x(row)p)2))")
        edits, paper = spread(program, 0, 8)
        self.assertEqual(edits, [(0, 8, 7, " p"), (0, 15, 2, " 2")])
        self.assertEqual(self.sound(program, edits, paper)[0][1], "(open m(p)(do p 2))")
        program = program_of("(open m(p)(do(let x(add 1 2)x)2))")
        edits, paper = spread(program, 0, 8)
        self.assertEqual(edits, [(0, 8, 8, ""), (0, 16, 1, "(add 1 2)"), (0, 17, 1, "")])
        self.assertEqual(self.sound(program, edits, paper)[0][1], "(open m(p)(do(add 1 2)2))")
        program = program_of("(open m(p)(do(let x 7(row(row)x(row)x))2))")
        edits, paper = spread(program, 0, 8)
        self.assertEqual(self.sound(program, edits, paper)[0][1], "(open m(p)(do(row(row)7(row)7)2))")
        program = program_of("(open m(p)(do(let x 7 x)2))")
        edits, paper = spread(program, 0, 8)
        self.assertEqual(edits, [(0, 8, 4, ""), (0, 12, 1, " 7"), (0, 13, 2, " 2")])
        self.assertEqual(self.sound(program, edits, paper)[0][1], "(open m(p)(do 7 2))")
        program = program_of("(open m(p)(do(let x(row)(row x 3 x 4))2))")
        edits, paper = spread(program, 0, 8)
        self.assertEqual(self.sound(program, edits, paper)[0][1], "(open m(p)(do(row (row) 3 (row) 4)2))")


class SpreadRefused(Spread):
    def test_no_let(self):
        for text in ("@(open m (x) 1)", "(open m () (@let x 1 x))", "(open m () (let @x 1 x))", "(open m () (let x @1 x))", "(open m () (let x 1 @x))",
                     "(open m () (let x 1 x @))", "(open m () @(var x 1 x))", "(open m () @(each x 1 x))", "(open m () @1)"):
            self.wrong("name", text)
        program = program_of("(open m () (let x 1 x))", "")
        for place in ((0, -1), (0, 12), (-1, 5), (1, 0), (2, 5), (0, 1000), (10 ** 39, 5), (0, -10 ** 39)):
            self.refused_at(spread, program, place, (), "name", place)

    def test_shade(self):
        self.wrong("shade", "(open m (p) @(let x p (add x (let p 1 (add ^x x)))))")
        self.wrong("shade", "(open m (p) @(let x (add 1 p) (each p (row 1) ^x)))")
        self.wrong("shade", "(open m (p) @(let x p (fun (q p) (add ^x q))))")
        self.wrong("shade", "(open m () (var v 1 @(let x v (var v 2 ^x))))")
        # Ahead of set and deed.
        self.wrong("shade", "(open m (p) @(let x (say p) (add x (let p 1 ^x))))")
        self.wrong("shade", "(open m (p) (var v 1 @(let x (add p v) (do (set v 2) (let p 1 ^x)))))")
        # A set's name, too.
        self.wrong("shade", "(open m () (var v 1 @(let x (set v 2) (do (var v 3 (say ^x))))))")

    def test_set(self):
        self.wrong("set", "(open m () (var v 1 @(let x v (do (set ^v 2) (say x)))))")
        self.wrong("set", "(open m () (var w 1 (var v 1 @(let x (add 1 v) (do (set w 2) (say x) (say (set ^v 2)) (set v 3))))))")
        # Also where the name stands nowhere, or within a fun.
        self.wrong("set", "(open m () (var v 1 @(let x v (set ^v 2))))")
        self.wrong("set", "(open m () (var v 1 @(let x v (do (fun () x) (set ^v 2)))))")

    def test_deed(self):
        self.wrong("deed", "(open m () @(let x ^(say 1) (add x x)))")
        self.wrong("deed", "(open m () @(let x ^(say 1) 2))")
        self.wrong("deed", "(open m () @(let x ^(div 1 0) (do 1 x)))")
        self.wrong("deed", "(open m () @(let x ^(fault a) (fun () x)))")
        self.wrong("deed", "(open m () @(let x ^(say 1) (add (say 2) x)))")
        self.wrong("deed", "(open m () (var v 1 @(let x ^(set v 2) (while 0 x))))")
        # Not idle, though there is a set.
        self.wrong("deed", "(open m () (var v 1 @(let x ^(say v) (do (set v 2) (say x)))))")
        # Idle, with no set, but within a fun.
        self.wrong("deed", "(open m () (var v 1 @(let x ^v (fun () x))))")

    def test_many_tokens(self):
        for many in (492, 493):
            ones = "1 " * many
            told = f"(open m () (do (do {ones}) (do {ones})))"
            text = f"(open m () @(let x (do {ones}) (do x x)))"
            self.assertEqual(len(tokens_of(told)[0]), 999 if many == 492 else 1001)
            if many == 492:
                self.right(("spread", 0, ()), text, told)
            else:
                self.wrong("many", text)
                self.wrong("deed", text.replace("(do 1", "^(do (say 1)"))

    def test_many_signs(self):
        name = "(do 1" + " " * 9000 + "2)"
        for more in (0, 1):
            told = f"(open m () (row {name} {name}))"
            tail = ";" * (20000 - len(told) + more)
            text = f"(open m () @(let x {name} (row x x)))" + tail
            if more:
                self.wrong("many", text)
            else:
                self.assertLessEqual(len(text), 20001)
                self.right(("spread", 0, ()), text, told + tail)

    def test_many_brackets(self):
        for more in (0, 1):
            thing = "(not " * 30 + "1" + ")" * 30
            deep = "(not " * (29 + more), ")" * (29 + more)
            text = f"(open m () @(let x {thing} {deep[0]}x{deep[1]}))"
            if more:
                self.wrong("many", text)
            else:
                self.right(("spread", 0, ()), text, f"(open m () {deep[0]}{thing}{deep[1]})")

    def test_many_expressions(self):
        # Tokens are few enough in each part, expressions are too many in all.
        parts = [f"(open {name} () (do {'1 ' * 979}))" for name in "abcd"]
        ones = "1 " * 37
        for more in (3, 4):
            body = "(do x x" + " 3" * more + ")"
            text = f"(open m () @(let x (do {ones}) {body}))"
            if 4 * 980 + 1 + 2 * 38 + more <= 4000:
                self.right(("spread", 4, ()), *parts, text, *parts, f"(open m () {body})".replace("x", f"(do {ones})"))
            else:
                self.wrong("many", *parts, text)


class Both(Turnings):
    def there_and_back(self, text, name):
        """The program ahead, and that of a piece named whose name is spread again, at the place of what is around it."""
        program, place, around = asked_program(text)
        told = edited(program, named(program, *place, name)[0])
        return program, edited(told, spread(told, *around)[0])

    def test_sign_for_sign(self):
        for text in ("(open m (p) ^(add 1 @(say p)))", "(open m (p) (say ^(row ; one\n 1 ; piece\n @(row ; in\n 2) ; end\n)))", "(open m (p)\n^(fun (q)\n @(add p 1)))",
                     "(open m () (var v 1 ^(do 1 @v 3)))", "(open m (n) ^(say @(add n 1)))"):
            self.assertEqual(*self.there_and_back(text, "n"))

    def test_where_a_blank_went_between(self):
        program = program_of("(open m()(add(say 1)2))")
        told = edited(program, named(program, 0, 7, "n")[0])
        self.assertEqual(edited(told, spread(told, 0, 5)[0]), program_of("(open m()(add (say 1) 2))"))

    def test_a_body(self):
        # Its gap is that of the name.
        program = program_of("(open m ()\n(say 1))")
        told = edited(program, named(program, 0, 5, "n")[0])
        self.assertEqual(told, program_of("(open m ()\n(let n (say 1) n))"))
        self.assertEqual(edited(told, spread(told, 0, 5)[0]), program_of("(open m () (say 1))"))


if __name__ == "__main__":
    unittest.main()
