"""The desk: rows told, each one answered with a text."""

import unittest

from turnsame.desk import Desk
from turnsame.errors import NoLines, NoMore, NoOpen, NoProgram, NoRow, NoTurn, TurnError

MAIN = "(open m (p) (say (add p (f 2)))) ; tail"
MORE = "(function f (y) (add y 3))"
PAPER = "back unfold 0 0\nback spread 0 0\nback lose 1\nfunctions 0 1\nrecords"


class DeskTest(unittest.TestCase):
    def setUp(self):
        self.desk = Desk()

    def said(self, row, answer="ok"):
        told = self.desk.say(row)
        self.assertIs(type(told), str)
        self.assertEqual(told, answer, row)

    def refused(self, kind, *rows):
        for row in rows:
            with self.assertRaises(TurnError, msg=row) as caught:
                self.desk.say(row)
            self.assertIs(type(caught.exception), kind, row)
        return caught.exception

    def lay(self):
        self.said("part main\n" + MAIN)
        self.said("part more\n" + MORE)


class Parts(DeskTest):
    def test_texts(self):
        self.lay()
        self.said("text main", MAIN)
        self.said("text more", MORE)
        self.said("part main\n", "ok")
        self.said("text main", "")
        self.said("part a\n(open\n; b\n\n)\n")
        self.said("text a", "(open\n; b\n\n)\n")

    def test_in_the_place_of_the_one_of_this_name(self):
        self.lay()
        self.said("part third\n(deep g () 1)")
        # The order stays: a fault of the part laid anew is told by its number.
        self.said("part more\n(")
        fault = self.refused(NoProgram, "run m 5")
        self.assertEqual((fault.part, fault.at), (1, 1))
        self.said("part more\n" + MORE)
        self.said("run m 5 1", "say 6\nback 6")

    def test_the_others_as_they_are_now(self):
        self.lay()
        self.said("rename more 2 g")
        self.said("part third\n(deep h () 1)")
        self.said("text main", MAIN.replace("(f", "(g"))
        self.said("text more", MORE.replace(" f", " g"))
        self.said("done", "0")

    def test_what_was_done_and_taken_back_is_gone(self):
        self.lay()
        self.said("rename more 2 g")
        self.said("rename more 2 h")
        self.said("undo")
        self.said("part main\n(open m () (g 1))")
        self.said("done", "0")
        self.refused(NoMore, "undo", "redo", "paper", "check\nfunctions\nrecords")
        self.said("run m 0", "back 4")

    def test_parts_that_make_no_program(self):
        # They are laid all the same.
        for number, name in enumerate("abcdefg"):
            self.said(f"part {name}\n(open m{name} () {number})")
        fault = self.refused(NoProgram, "run ma 5")
        self.assertEqual((fault.part, fault.at), (-1, -1))
        self.said("text g", "(open mg () 6)")
        self.refused(NoProgram, "rename a 2 x")

    def test_rows_that_are_none(self):
        self.refused(NoRow, "part", "part a", "part\n", "part \n", "part a b\n", "part  a\n", " part a\n", "part a \n", "part A\n", "part do\n", "part toolongname\n",
                     "part 1\n", "Part a\n", "part\na\n", "\npart a\n", "part a 0 1\n", "text\na", "text a", "text", "text a b", "text a\n", "", "\n", " ", "part a;\n")
        self.said("done", "0")
        self.refused(NoProgram, "run m 5")


class Requests(DeskTest):
    def test_each_one(self):
        for row, part, behind in (
            ("rename main 4 q", "main", "(open m (q) (say (add q (f 2)))) ; tail"),
            ("rename more 2 g", "main", "(open m (p) (say (add p (g 2)))) ; tail"),
            ("move more 2 main", "main", "(open m (p) (say (add p (f 2))))(function f (y) (add y 3)) ; tail"),
            ("put more 2 1 z -7", "main", "(open m (p) (say (add p (f 2 -7)))) ; tail"),
            ("draw main 8 g", "main", "(open m (p) (say (g p)))\n(function g (p) (add p (f 2))) ; tail"),
            ("inplace main 11", "main", "(open m (p) (say (add p (let y 2 (add y 3))))) ; tail"),
            ("name main 11 n", "main", "(open m (p) (say (let n (f 2) (add p n)))) ; tail"),
        ):
            self.desk = Desk()
            self.lay()
            self.said(row)
            self.said(f"text {part}", behind)
            self.said("done", "1")
            self.said("undo")
            self.said("text main", MAIN)
            self.said("text more", MORE)

    def test_the_other_ones(self):
        self.said("part a\n(record r x y) (open m (p) (if p (let z (new r 1 2) (get r x z)) (each i (row 1) (do 1 (say i)))))")
        self.said("part b\n(function f (k) 1)")
        for row, behind in (
            ("take b 4", None),
            ("field a 3 1", "(record r y x) (open m (p) (if p (let z (new r 2 1) (get r x z)) (each i (row 1) (do 1 (say i)))))"),
            ("flip a 12", "(record r y x) (open m (p) (if (not p) (each i (row 1) (do 1 (say i))) (let z (new r 2 1) (get r x z))))"),
            ("spread a 34", "(record r y x) (open m (p) (if (not p) (each i (row 1) (do 1 (say i))) (get r x (new r 2 1))))"),
            ("part a 18 1", "(record r y x) (open m (p) (if (not p) (do (each i (row 1) (do 1)) (each i (row 1) (do (say i)))) (get r x (new r 2 1))))"),
        ):
            self.said(row)
            if behind:
                self.said("text a", behind)
        self.said("text b", "(function f () 1)")
        self.said("done", "5")

    def test_as_what_it_asks_refuses(self):
        self.lay()
        for row, word, place in (
            ("rename main 0 q", "name", (0, 0)), ("rename main 4 Q", "name", (0, 4)), ("rename main 4 (", "name", (0, 4)), ("rename main 4 !", "name", (0, 4)), ("rename main 4 ~;)", "name", (0, 4)), ("rename main 999 q", "name", (0, 999)),
            ("rename main 4 " + "q" * 30, "name", (0, 4)), ("draw main 11 m", "used", (0, 2)),
            ("move more 2 more", "part", (1, 2)), ("put main 2 0 x 5", "open", (0, 2)), ("put more 2 2 x 5", "name", (1, 2)), ("take more 4", "used", (1, 8)),
            ("inplace main 8", "name", (0, 8)), ("flip main 8", "name", (0, 8)), ("part main 8 1", "name", (0, 8)), ("spread main 8", "name", (0, 8)),
            ("field main 3 0", "name", (0, 3)), ("name main 9 m", "name", (0, 9)),
        ):
            fault = self.refused(NoTurn, row)
            self.assertEqual((fault.word, (fault.part, fault.at)), (word, place), row)
        self.said("done", "0")
        self.said("text main", MAIN)

    def test_rows_that_are_none(self):
        self.lay()
        self.refused(
            NoRow, "rename main 4", "rename main 4 ", "rename main 4 q ", " rename main 4 q", "rename  main 4 q", "rename main  4 q", "rename main 4 q\n", "rename main 4\nq",
            "rename main 04 q", "rename main -1 q", "rename main 00 q", "rename main x q", "rename main 4 q q", "rename other 4 q", "rename 0 4 q", "rename Main 4 q",
            "Rename main 4 q", "rename", "rename main", "renamed main 4 q", "move more 2 other", "move more 2 0", "move more 2", "move other 2 main",
            "put more 2 1 z", "put more 2 1 z 32768", "put more 2 1 z -32769", "put more 2 1 z 05", "put more 2 1 z -0", "put more 2 1 z +5", "put more 2 -1 z 5",
            "put more 2 01 z 5", "put more 2 1 z x", "put more 2 1 z 5 5", "take more", "take more 4 4", "take more x", "take more 4\n", "field more 4", "field more 4 x",
            "draw main 8", "draw main 8 g h", "inplace main", "inplace main 11 11", "flip main", "flip main 1 1", "part main 8", "part main 8 -1", "part main 8 1 1",
            "part main 8 1\n", "name main 11", "name main 11 n n", "spread main", "spread main 5 5", "inplace main 1.", "draw  main 8 g", "draw main 8 g\t",
        )
        self.said("done", "0")

    def test_reading_goes_first(self):
        self.said("part main\n(open m () x)")
        # Ahead of what the request asks, but behind what is no row.
        fault = self.refused(NoProgram, "rename main 0 Q", "put main 2 0 x 5", "run m 5", "run other 5")
        self.assertEqual((fault.part, fault.at), (0, 5))
        self.refused(NoRow, "rename other 0 q", "rename main 0", "put main 2 0 x 99999", "run m", "run m 5 x")
        # Others look at no program.
        self.refused(NoMore, "undo", "redo", "paper", "check\nfunctions\nrecords", "check\nx")
        self.said("done", "0")
        self.said("text main", "(open m () x)")

    def test_of_no_parts(self):
        fault = self.refused(NoProgram, "run m 5")
        self.assertEqual((fault.part, fault.at), (-1, -1))
        self.refused(NoRow, "rename main 2 q", "text main", "flip main 5")
        self.refused(NoMore, "undo", "redo", "paper", "check\n")
        self.said("done", "0")


class Done(DeskTest):
    def test_one_behind_the_other(self):
        self.lay()
        self.refused(NoMore, "undo", "redo", "paper")
        self.said("draw main 8 g")
        self.said("done", "1")
        self.said("paper", PAPER)
        self.said("check\n" + PAPER, "let by")
        self.said("rename main 2 k")
        self.said("paper", "functions 0 1 2\nrecords\nopen k m")
        self.said("check\nfunctions 0 1 2\nrecords\nopen k m", "let by")
        self.said("check\n" + PAPER, "not")
        self.said("done", "2")
        self.said("undo")
        self.said("done", "1")
        self.said("paper", PAPER)
        self.said("check\n" + PAPER, "let by")
        self.said("undo")
        self.said("text main", MAIN)
        self.refused(NoMore, "undo", "paper", "check\n" + PAPER)
        self.said("redo")
        self.said("redo")
        self.said("run k 5 1", "say 6\nback 6")
        self.refused(NoMore, "redo")
        self.refused(NoOpen, "run m 5 1")
        self.said("undo")
        self.said("rename main 2 j")
        self.refused(NoMore, "redo")
        self.said("done", "2")

    def test_what_is_refused_leaves_all(self):
        self.lay()
        self.said("rename more 2 g")
        self.said("rename more 2 h")
        self.said("undo")
        self.refused(NoTurn, "rename more 0 k")
        self.refused(NoRow, "rename more 2", "part", "part A\n")
        self.refused(NoOpen, "run g 5")
        self.said("redo")
        self.said("text more", MORE.replace(" f", " h"))

    def test_rows_that_are_none(self):
        self.lay()
        self.said("rename more 2 g")
        for word in ("undo", "redo", "done", "paper", "check"):
            self.refused(NoRow, word + " ", " " + word, word + " 1", word + " main", word.upper(), word + "s")
            if word != "check":
                self.refused(NoRow, word + "\n", "\n" + word)
        self.refused(NoRow, "check", "check \nfunctions 0 1\nrecords", "check functions 0 1")
        self.said("done", "1")

    def test_check(self):
        self.lay()
        self.said("rename more 2 g")
        self.said("check\nfunctions 0 1\nrecords", "let by")
        for lines in ("functions 1 0\nrecords", "functions 0\nrecords", "functions\nrecords", "there lose 5\nfunctions 0 1\nrecords", "functions 0 1\nrecords 0", "functions 0 1\nrecords\nopen a m"):
            self.said("check\n" + lines, "not")
        for lines, row in (("", 0), ("functions 0 1", 1), ("functions 0 1\n", 1), ("functions 0 1\nrecords\n", 2), ("x", 0), ("functions 0 1\nrecords\nopen m", 2),
                           ("\nfunctions 0 1\nrecords", 0), (" functions 0 1\nrecords", 0)):
            self.assertEqual(self.refused(NoLines, "check\n" + lines).row, row)
        # Nothing was done: ahead of reading the lines.
        self.said("undo")
        self.refused(NoMore, "check\nx", "check\n", "check\nfunctions 0 1\nrecords")

    def test_a_desk_beside_another_one(self):
        other = Desk()
        self.lay()
        self.said("rename more 2 g")
        self.assertEqual(other.say("done"), "0")
        other.say("part main\n(open m () 1)")
        self.said("text main", MAIN.replace("(f", "(g"))
        self.assertEqual(other.say("run m 0"), "back 1")


class Runs(DeskTest):
    def test_looks(self):
        self.said("part a\n(record r x) (open m (p q) (do (say p) (say (row p q 3)) (say (row)) (say (new r 1)) (fun () 1)))")
        self.said("run m 0 -5 32767", "say -5\nsay [-5 32767 3]\nsay []\nsay thing\nback thing")
        self.said("part a\n(open m () (row 1 -2))")
        self.said("run m 10000", "back [1 -2]")
        self.said("part a\n(open m () (row))")
        self.said("run m 1", "back []")

    def test_ends(self):
        self.said("part a\n(open m (x) (do (say 1) (fault wrong))) (open n (x) (while 1 (say x))) (open o () (div 1 0)) (open p () 7)")
        self.said("run m 9 1", "say 1\nfault wrong")
        self.said("run n 2 8", "say 8\nsay 8\ndry")
        self.said("run n 0 8", "dry")
        self.said("run o 0", "fault nought")
        self.said("run p 0", "back 7")

    def test_of_the_program_as_it_is_now(self):
        self.lay()
        self.said("run m 5 1", "say 6\nback 6")
        self.said("rename main 2 k")
        self.refused(NoOpen, "run m 5 1")
        self.said("run k 5 1", "say 6\nback 6")
        self.said("done", "1")

    def test_no_open(self):
        self.lay()
        self.refused(NoOpen, "run m 5", "run m 5 1 2", "run f 5 1", "run x 5")

    def test_rows_that_are_none(self):
        self.lay()
        self.refused(
            NoRow, "run", "run m", "run m ", "run  m 5 1", "run m 5 1 ", " run m 5 1", "run m 05 1", "run m 10001 1", "run m -1 1", "run m x 1", "run m 5 01", "run m 5 x",
            "run m 5 32768", "run m 5 -32769", "run m 5 -0", "run m 5\n", "run m\n5", "run m 5 1\n", "run M 5 1", "run do 5 1", "run 5 5", "run m 5 [1]", "run m 5  1",
            "run m 99999999999999999999 1", "runs m 5 1", "run m " + "9" * 6000,
        )


if __name__ == "__main__":
    unittest.main()
