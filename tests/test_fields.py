"""Fields moved among those of their record."""

import unittest

from helpers import program_of
from turnings import Turnings
from turnsame.fields import moved_field


class Fields(Turnings):
    def right(self, k, step, *texts_and_behind):
        """Texts, then as many as they are once more, behind the turning; step is the record and the order."""
        many = len(texts_and_behind) // 2
        paper = self.turned(moved_field, texts_and_behind[:many], (k,), texts_and_behind[many:])
        self.assertEqual(paper[:2], ((("fields",) + step,), ()))
        self.assertEqual(paper[4], ())

    def wrong(self, word, k, *texts):
        self.refused(moved_field, texts, (k,), word)


class Told(Fields):
    def test_to_each_number(self):
        more = " (open m (x) (get r b (new r 1 x 3 4)))"
        self.right(1, (0, (1, 0, 2, 3)), "(record r @a b c d)" + more, "(record r b a c d) (open m (x) (get r b (new r x 1 3 4)))")
        self.right(2, (0, (1, 2, 0, 3)), "(record r @a b c d)" + more, "(record r b c a d) (open m (x) (get r b (new r x 3 1 4)))")
        self.right(3, (0, (1, 2, 3, 0)), "(record r @a b c d)" + more, "(record r b c d a) (open m (x) (get r b (new r x 3 4 1)))")
        self.right(0, (0, (1, 0, 2, 3)), "(record r a @b c d)" + more, "(record r b a c d) (open m (x) (get r b (new r x 1 3 4)))")
        self.right(3, (0, (0, 2, 3, 1)), "(record r a @b c d)" + more, "(record r a c d b) (open m (x) (get r b (new r 1 3 4 x)))")
        self.right(0, (0, (3, 0, 1, 2)), "(record r a b c @d)" + more, "(record r d a b c) (open m (x) (get r b (new r 4 1 x 3)))")

    def test_the_own_number(self):
        for text, k in (("(record r @a)", 0), ("(record r a @b c) (open m () (new r 1 2 3))", 1), ("(record r a b @c)", 2)):
            paper = self.turned(moved_field, (text,), (k,), (text.replace("@", ""),))
            self.assertEqual(paper[:2], ((), ()))
            self.assertEqual(paper[3:], ((0,), ()))
        self.assertEqual(moved_field(program_of("(record r a b)"), 0, 4, 1), ([], ((), (), (), (0,), ())))
        # Nothing is laid anew, so no deed stands against it.
        program = program_of("(record r a b) (open m () (new r (say 1) (say 2)))")
        self.assertEqual(moved_field(program, 0, 4, 1), ([], ((), (), (0,), (0,), ())))

    def test_several_parts_and_records(self):
        self.right(0, (1, (1, 0)), "(record s a b) (open m () (new r 1 2))", "(record r a @b) (open n () (fun () (new r 3 4)))", "(open o (x) (get r b (new s 5 6)))",
                   "(record s a b) (open m () (new r 2 1))", "(record r b a) (open n () (fun () (new r 4 3)))", "(open o (x) (get r b (new s 5 6)))")
        # Another record of the name.
        self.right(0, (0, (1, 0)), "(record r a @b) (open m () (new r 1 2))", "(record r a b) (open n () (new r 3 4))",
                   "(record r b a) (open m () (new r 2 1))", "(record r a b) (open n () (new r 3 4))")

    def test_news_within_news(self):
        self.right(1, (0, (1, 0)), "(record r @a b) (open m () (new r (new r 1 2) (new r 3 (new r 4 5))))",
                   "(record r b a) (open m () (new r (new r (new r 5 4) 3) (new r 2 1)))")
        self.right(0, (0, (2, 0, 1)), "(record r a b @c) (open m () (new r 1 (new r 2 3 4) (new r 5 (new r 6 7 8) 9)))",
                   "(record r c a b) (open m () (new r (new r 9 5 (new r 8 6 7)) 1 (new r 4 2 3)))")

    def test_news_at_like_numbers_of_several_parts(self):
        self.right(1, (0, (1, 0)), "(open m () (new r (row 1 2 3 4 5 6 7) 2))", "(open n () (say (new r 3 4)))", "(record r @a b)",
                   "(open m () (new r 2 (row 1 2 3 4 5 6 7)))", "(open n () (say (new r 4 3)))", "(record r b a)")

    def test_a_new_within_a_call_within_a_new(self):
        self.right(1, (0, (1, 0)), "(record r @a b) (function f (x) x) (open m () (new r (f (new r 1 2)) 3))",
                   "(record r b a) (function f (x) x) (open m () (new r 3 (f (new r 2 1))))")

    def test_one_thing_that_is_not_calm(self):
        self.right(1, (0, (1, 0, 2)), "(record r @a b c) (open m () (new r (say 1) 2 3))", "(record r b a c) (open m () (new r 2 (say 1) 3))")
        self.right(0, (0, (1, 0, 2)), "(record r a @b c) (open m () (new r 1 2 (div 1 0)))", "(record r b a c) (open m () (new r 2 1 (div 1 0)))")
        self.right(1, (0, (1, 0)), "(record r @a b) (open m () (var v 1 (new r v (fun () (say 1)))))",
                   "(record r b a) (open m () (var v 1 (new r (fun () (say 1)) v)))")

    def test_things_go_with_their_gaps(self):
        self.right(1, (0, (1, 0)), "(record ; the name\n r ; of a\n @a\n  b) (open m() (new r ; one\n 1\n\n (row ; none\n ) ; end\n)) ; tail",
                   "(record ; the name\n r\n  b ; of a\n a) (open m() (new r\n\n (row ; none\n ) ; one\n 1 ; end\n)) ; tail")

    def test_two_words_that_would_run_into_one(self):
        program = program_of("(record r a b c)(open m()(new r 1(row)2))")
        edits, paper = moved_field(program, 0, 4, 0)
        self.assertEqual(edits, [(0, 3, 0, " b"), (0, 4, 1, ""), (0, 15, 0, "(row)"), (0, 16, 4, " 2")])
        self.assertEqual(self.sound(program, edits, paper)[0][1], "(record r b a c)(open m()(new r(row) 1 2))")
        edits, paper = moved_field(program, 0, 5, 0)
        self.assertEqual(self.sound(program, edits, paper)[0][1], "(record r c a b)(open m()(new r 2 1(row)))")
        edits, paper = moved_field(program, 0, 3, 1)
        self.assertEqual(self.sound(program, edits, paper)[0][1], "(record r b a c)(open m()(new r(row) 1 2))")
        # Within a thing that is moved.
        program = program_of("(record r a b c)(open m()(new r(new r 1(row)2)3(row)))")
        edits, paper = moved_field(program, 0, 4, 2)
        self.assertEqual(self.sound(program, edits, paper)[0][1], "(record r a c b)(open m()(new r(new r 1 2(row))(row)3))")
        edits, paper = moved_field(program, 0, 3, 1)
        self.assertEqual(self.sound(program, edits, paper)[0][1], "(record r b a c)(open m()(new r 3(new r(row) 1 2)(row)))")


class Refused(Fields):
    def test_no_such_place(self):
        for text in ("(record @r a)", "(@record r a)", "@(record r a)", "(record r a @)", "(deep f (@x) x)", "(deep @f (x) x)",
                     "(record r a) (open f () (get r @a 1))", "(record r a) (open f () (get @r a 1))", "(open f () @1)"):
            self.wrong("name", 0, text)
        program = program_of("(record r a)", "")
        for place in ((0, -1), (0, 5), (-1, 3), (1, 0), (2, 3), (0, 1000), (10 ** 39, 3), (0, -10 ** 39)):
            self.refused_at(moved_field, program, place, (0,), "name", place)

    def test_no_such_number(self):
        for k in (-1, 2, 3, 10 ** 39, -10 ** 39):
            self.wrong("name", k, "(record r @a b)")
            # Ahead of deed.
            self.wrong("name", k, "(record r a @b) (open m () (new r (say 1) (say 2)))")

    def test_deed(self):
        self.wrong("deed", 1, "(record r @a b) (open m () (new r (say 1) ^(say 2)))")
        self.wrong("deed", 1, "(record r @a b c) (open m () (new r (say 1) 2 ^(div 1 2)))")
        # Whether they change places is no matter.
        self.wrong("deed", 1, "(record r @a b c d) (open m () (new r 1 2 (say 1) ^(say 2)))")
        # A var that is read, or set.
        self.wrong("deed", 1, "(record r @a b) (open m () (var v 1 (new r v ^(set v 2))))")
        self.wrong("deed", 1, "(record r @a b) (open m () (var v 1 (new r v ^v)))")

    def test_deed_of_the_first_new(self):
        self.wrong("deed", 1, "(open n () (add (new r 1 (say 1)) (new r (say 1) ^(say 2))))", "(record r @a b) (open m () (new r (say 1) (say 2)))")
        # The outer one is the first, its second such thing stands behind that of the inner one.
        self.wrong("deed", 1, "(record r @a b) (open m () (new r (new r (say 1) (say 2)) ^(say 3)))")
        self.wrong("deed", 1, "(record r @a b) (open m () (new r (new r (say 1) ^(say 2)) 3))")

    def test_too_many_signs(self):
        # One blank goes between.
        for more in (0, 1):
            text = "(open m()(new r 1(row)2))"
            full = text + ";" * (20000 - len(text) - 1 + more)
            if more:
                self.wrong("many", 0, "(record r a @b c)", full)
                self.wrong("deed", 0, "(record r a @b c) (open n () (new r 1 (say 1) ^(say 2)))", full)
            else:
                self.right(0, (0, (1, 0, 2)), "(record r a @b c)", full, "(record r b a c)", full.replace("1(row)2", "(row) 1 2").replace("r (", "r("))


if __name__ == "__main__":
    unittest.main()
