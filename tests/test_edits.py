"""Edits: programs edited, edits taken back, places behind edits."""

import random
import unittest

from turnsame.edits import back_edits, edited, place_through
from turnsame.errors import NoEdit, TurnError
from turnsame.tokens import tokens_of

#         0   1  2   3    4   5         6   7 8          the numbers of tokens
ONE = "  (a  bb ; c\n ccc) d ; e\n(f ) g ; tail\n"
PROGRAM = (("one", ONE), ("two", ""), ("three", "; all tail"), ("four", "x y"))


class Edits(unittest.TestCase):
    def check(self, edits, *texts, program=PROGRAM):
        """The program edited has these texts; taken back, it is the first one."""
        before = repr((program, edits))
        told = edited(program, edits)
        self.assertIs(type(told), tuple)
        self.assertEqual([type(part) for part in told], [tuple] * len(program))
        self.assertEqual([name for name, _ in told], [name for name, _ in program])
        self.assertEqual([text for _, text in told], list(texts) + [text for _, text in program[len(texts):]], edits)
        back = back_edits(program, edits)
        self.assertIs(type(back), list)
        self.assertEqual(edited(told, back), program)
        self.assertEqual(edited(program, back_edits(told, back)), told)
        self.assertEqual(repr((program, edits)), before)
        return told, back

    def refused(self, edits, number, program=PROGRAM):
        for ask in (edited, back_edits):
            with self.assertRaises(TurnError) as caught:
                ask(program, edits)
            self.assertIs(type(caught.exception), NoEdit)
            self.assertEqual(caught.exception.number, number, edits)


class Edited(Edits):
    def test_tokens_of_the_text(self):
        self.assertEqual([word for _, word in tokens_of(ONE)[0]], ["(", "a", "bb", "ccc", ")", "d", "(", "f", ")", "g"])

    def test_none(self):
        self.check([], ONE)
        self.assertEqual(edited((), []), ())

    def test_one(self):
        self.check([(0, 1, 1, " z")], ONE.replace("a", " z", 1))
        self.check([(0, 2, 1, "  bbb")], ONE.replace("bb", "bbb"))
        self.check([(0, 3, 1, " x")], "  (a  bb x) d ; e\n(f ) g ; tail\n")
        self.check([(0, 1, 1, "z")], ONE.replace("a", "z", 1))

    def test_takes_none(self):
        self.check([(0, 0, 0, "new")], "new" + ONE)
        self.check([(0, 2, 0, " z")], ONE.replace("a  bb", "a z  bb"))
        self.check([(0, 4, 0, " z")], ONE.replace("ccc)", "ccc z)"))
        self.check([(0, 10, 0, " z")], ONE.replace("g ; tail", "g z ; tail"))
        self.check([(0, 10, 0, "")], ONE)
        self.check([(0, 3, 0, "")], ONE)

    def test_lays_none(self):
        self.check([(0, 1, 1, "")], "  (  bb ; c\n ccc) d ; e\n(f ) g ; tail\n")
        self.check([(0, 3, 1, "")], "  (a  bb) d ; e\n(f ) g ; tail\n")
        self.check([(0, 0, 10, "")], " ; tail\n")
        self.check([(0, 5, 4, "")], "  (a  bb ; c\n ccc) g ; tail\n")

    def test_several_tokens(self):
        self.check([(0, 1, 3, "(p  q ; r\n\n s)t")], "  ((p  q ; r\n\n s)t) d ; e\n(f ) g ; tail\n")
        self.check([(0, 0, 10, "\n\nw ;;;\n(")], "\n\nw ;;;\n( ; tail\n")

    def test_gaps_and_remarks_in_the_text(self):
        self.check([(0, 2, 1, "; one\n; two\nzz")], ONE.replace("  bb", "; one\n; two\nzz"))
        self.check([(0, 2, 0, ";\nzz")], ONE.replace("  bb", ";\nzz  bb"))

    def test_several_in_one_part(self):
        self.check([(0, 1, 1, "x"), (0, 3, 1, " y"), (0, 9, 1, " z")], "  (x  bb y) d ; e\n(f ) z ; tail\n")
        self.check([(0, 1, 1, ""), (0, 2, 1, "q"), (0, 3, 1, "")], "  (q) d ; e\n(f ) g ; tail\n")
        self.check([(0, 0, 0, "x"), (0, 0, 1, "("), (0, 1, 9, " u")], "x( u ; tail\n")

    def test_several_in_several_parts(self):
        self.check([(0, 1, 1, "x"), (1, 0, 0, "y"), (2, 0, 0, "z"), (3, 0, 1, "p q"), (3, 2, 0, "\nr")],
                   ONE.replace("a", "x", 1), "y", "z; all tail", "p q y\nr")

    def test_two_that_begin_at_one_token(self):
        self.check([(0, 2, 0, " x"), (0, 2, 0, " y"), (0, 2, 1, " z")], "  (a x y z ; c\n ccc) d ; e\n(f ) g ; tail\n")
        self.check([(0, 10, 0, " x"), (0, 10, 0, " y z")], ONE.replace("g ", "g x y z "))
        self.check([(1, 0, 0, "x"), (1, 0, 0, "(y)"), (1, 0, 0, "z")], ONE, "x(y)z")
        self.check([(0, 2, 0, ""), (0, 2, 0, ""), (0, 2, 1, "  bb")], ONE)

    def test_a_part_without_tokens(self):
        self.check([(1, 0, 0, "x")], ONE, "x")
        self.check([(1, 0, 0, " ;\n(x)")], ONE, " ;\n(x)")
        self.check([(2, 0, 0, "x")], ONE, "", "x; all tail")
        self.check([(2, 0, 0, "")], ONE)

    def test_all_else_stays(self):
        odd = (("a", "\n ;;(((\n a;b\n(  ;)\n) ; ("), ("b", ")(("))
        self.check([(0, 1, 1, " [")], "\n ;;(((\n a [  ;)\n) ; (", program=odd)
        self.check([(1, 1, 0, "x")], odd[0][1], ")x((", program=odd)

    def test_programs_that_are_not_right(self):
        told, _ = self.check([(0, 0, 1, "")], "a  bb ; c\n ccc) d ; e\n(f ) g ; tail\n")
        self.assertEqual(told[0][0], "one")


class Refused(Edits):
    def test_a_text_with_a_tail(self):
        for text in (" ", "\n", "x ", "x\n", ";", "x ; y", "; remark", "(x) ", "x;", "\n\n"):
            self.refused([(0, 1, 1, text)], 0)
            self.refused([(0, 1, 0, text)], 0)
            self.refused([(0, 0, 0, "("), (1, 0, 0, text)], 1)

    def test_parts_that_there_are_not(self):
        for part in (-1, 4, 5, 1000, -10 ** 39, 10 ** 39):
            self.refused([(part, 0, 0, "x")], 0)
            self.refused([(part, 0, 0, "")], 0)
        self.refused([(0, 0, 0, "(")], 0, program=())

    def test_tokens_that_there_are_not(self):
        for at, many in ((-1, 0), (-1, 1), (11, 0), (10, 1), (9, 2), (0, 11), (0, -1), (5, -1), (10, -1), (11, -1), (-1, 2),
                         (10 ** 39, 0), (0, 10 ** 39), (-10 ** 39, 10 ** 39)):
            self.refused([(0, at, many, "(")], 0)
            self.refused([(0, 0, 0, "("), (0, at, many, "(")], 1)
        self.refused([(1, 0, 1, "(")], 0)
        self.refused([(1, 1, 0, "(")], 0)
        self.refused([(2, 1, 0, "(")], 0)

    def test_edits_that_do_not_rise(self):
        self.refused([(1, 0, 0, "("), (0, 0, 0, "(")], 1)
        self.refused([(0, 4, 0, "("), (0, 0, 0, "(")], 1)
        self.refused([(0, 4, 0, "("), (0, 3, 0, "(")], 1)
        self.refused([(0, 0, 2, "("), (0, 1, 1, "(")], 1)
        self.refused([(0, 0, 2, "("), (0, 1, 0, "(")], 1)
        self.refused([(0, 6, 1, "("), (0, 6, 1, "(")], 1)
        self.refused([(0, 6, 1, "("), (0, 6, 0, "(")], 1)
        self.refused([(0, 6, 1, "("), (0, 7, 0, "("), (1, 0, 0, "("), (0, 9, 0, "(")], 3)
        self.refused([(0, 6, 1, "("), (3, 1, 0, "("), (3, 0, 0, "(")], 2)
        # Where the one ahead ends, the next one may begin.
        self.assertEqual(edited(PROGRAM, [(0, 0, 2, "("), (0, 2, 0, "(")])[0][1][:2], "((")

    def test_the_first_that_is_due(self):
        self.refused([(0, 0, 0, "( "), (9, 0, 0, "("), (0, 0, 0, "(")], 0)
        self.refused([(0, 0, 0, "("), (9, 0, 0, "("), (0, 0, 0, " ")], 1)
        self.refused([(0, 0, 0, "("), (1, 0, 0, "("), (0, 0, 0, " "), (9, 9, 9, "")], 2)

    def test_two_words_at_the_first_end(self):
        for text in ("z", "z y", "z(", "-1"):
            self.refused([(0, 2, 1, text)], 0)
            self.refused([(0, 0, 0, "("), (0, 2, 0, text)], 1)
            self.refused([(0, 10, 0, text)], 0)
            self.check([(0, 1, 1, text)], ONE.replace("a", text, 1))
            self.check([(0, 5, 1, text)], ONE.replace(" d ", text + " "))

    def test_two_words_at_the_last_end(self):
        program = (("a", "(x(y)z)w"),)
        for at in (1, 3, 5, 7):
            for text in ("q", " q", " p q", "()q"):
                self.refused([(0, at, 0, text)], 0, program)
                self.refused([(0, 0, 0, "("), (0, at, 0, text)], 1, program)
        self.refused([(0, 4, 1, " q")], 0, program)
        self.check([(0, 5, 0, "q(")], "(x(y)q(z)w", program=program)
        self.check([(0, 5, 1, "q")], "(x(y)q)w", program=program)
        self.check([(0, 2, 0, " q")], "(x q(y)z)w", program=program)
        self.check([(0, 6, 0, " p q")], "(x(y)z p q)w", program=program)

    def test_words_that_what_goes_had_parted(self):
        program = (("a", "x(y)z"),)
        self.refused([(0, 1, 1, "")], 0, program)
        self.refused([(0, 3, 1, "")], 0, program)
        self.refused([(0, 1, 3, "")], 0, program)
        self.refused([(0, 0, 0, "("), (0, 1, 3, "")], 1, program)
        self.check([(0, 1, 3, "()")], "x()z", program=program)
        self.check([(0, 0, 2, "")], "y)z", program=program)
        self.check([(0, 3, 2, "")], "x(y", program=program)

    def test_when_all_are_done(self):
        program = (("a", "x(y)z"),)
        # Each alone would run words into one, both together do not.
        self.refused([(0, 1, 1, "")], 0, program)
        self.check([(0, 1, 1, ""), (0, 2, 1, " y")], "x y)z", program=program)
        self.check([(0, 0, 1, ""), (0, 1, 1, "")], "y)z", program=program)
        # Edits that lay none stand between the words.
        self.refused([(0, 0, 0, "q"), (0, 0, 0, "")], 0, program)
        self.refused([(0, 1, 1, "q")], 0, program)
        self.refused([(0, 0, 1, "x"), (0, 1, 1, ""), (0, 2, 1, "y")], 0, program)
        self.refused([(0, 0, 1, "("), (0, 1, 1, ""), (0, 2, 1, "y"), (0, 3, 1, "")], 2, program)
        self.refused([(0, 0, 1, "("), (0, 1, 1, ""), (0, 3, 1, "")], 2, program)

    def test_brackets_run_into_nothing(self):
        program = (("a", "x(y)z"),)
        self.check([(0, 1, 1, ")")], "x)y)z", program=program)
        self.check([(0, 0, 0, "(")], "(x(y)z", program=program)
        self.check([(0, 5, 0, ")")], "x(y)z)", program=program)
        self.check([(0, 2, 1, "")], "x()z", program=program)
        self.check([(0, 2, 1, "((")], "x((()z", program=program)

    def test_a_refused_one_ahead_of_what_comes_of_all(self):
        program = (("a", "x(y)z"),)
        self.refused([(0, 1, 1, ""), (0, 9, 0, "")], 1, program)

    def test_remarks_end_no_gap(self):
        self.check([(3, 1, 1, ";\ny")], ONE, "", "; all tail", "x;\ny")


class BackEdits(Edits):
    def test_told(self):
        self.assertEqual(back_edits(PROGRAM, []), [])
        self.assertEqual(back_edits(PROGRAM, [(0, 1, 2, "x y z"), (0, 5, 0, "(q)"), (0, 9, 1, "")]),
                         [(0, 1, 3, "a  bb"), (0, 6, 3, ""), (0, 13, 0, " g")])
        self.assertEqual(back_edits(PROGRAM, [(0, 3, 1, " x"), (1, 0, 0, "(y)"), (3, 0, 1, ""), (3, 2, 0, " z")]),
                         [(0, 3, 1, " ; c\n ccc"), (1, 0, 3, ""), (3, 0, 0, "x"), (3, 1, 1, "")])

    def test_made_by_chance(self):
        chance = random.Random(7)
        pieces = ("(", ")", " x", " yy", "\nz", " ;r\n(", ";\n w")
        met = 0
        for _ in range(2000):
            program = tuple((name, "".join(chance.choices(pieces, k=chance.randint(0, 6))) + chance.choice(("", " ", ";e")))
                            for name in ("p", "q", "r"))
            edits = []
            for part, (_, text) in enumerate(program):
                many = len(tokens_of(text)[0])
                ends = sorted(chance.randint(0, many) for _ in range(2 * chance.randint(0, 2)))
                for first, last in zip(ends[::2], ends[1::2]):
                    edits.append((part, first, last - first, "".join(chance.choices(pieces, k=chance.randint(0, 3)))))
            told = edited(program, edits)
            self.assertEqual(edited(told, back_edits(program, edits)), program)
            self.places(program, told, edits)
            met += len(edits)
        self.assertGreater(met, 2000)

    def places(self, program, told, edits):
        """Each token that no edit took stands, sign for sign, where place_through tells, and in the same order."""
        for part, (_, text) in enumerate(program):
            ahead, behind = tokens_of(text)[0], tokens_of(told[part][1])[0]
            left = [place_through(edits, part, at) for at in range(len(ahead))]
            taken = [at for _, first, many, _ in [edit for edit in edits if edit[0] == part] for at in range(first, first + many)]
            for at, place in enumerate(left):
                self.assertEqual(place is None, at in taken)
                if place is not None:
                    self.assertEqual(behind[place], ahead[at])
            kept = [place for place in left if place is not None]
            self.assertEqual(kept, sorted(set(kept)))


class PlaceThrough(unittest.TestCase):
    EDITS = [(0, 2, 0, "a b"), (0, 4, 2, "c"), (0, 6, 1, ""), (0, 9, 0, "(d)"), (2, 0, 1, "e f g")]

    def test_places(self):
        wanted = [0, 1, 4, 5, None, None, None, 7, 8, 12, 13]
        self.assertEqual([place_through(self.EDITS, 0, at) for at in range(11)], wanted)

    def test_other_parts(self):
        self.assertEqual([place_through(self.EDITS, 1, at) for at in range(11)], list(range(11)))
        self.assertEqual([place_through(self.EDITS, 2, at) for at in range(4)], [None, 3, 4, 5])

    def test_no_edits(self):
        self.assertEqual([place_through([], 0, at) for at in range(3)], [0, 1, 2])

    def test_at_the_place_of_one_that_takes_none(self):
        self.assertEqual(place_through([(0, 3, 0, "x")], 0, 3), 4)
        self.assertEqual(place_through([(0, 3, 0, "x"), (0, 3, 0, "y z")], 0, 3), 6)
        self.assertEqual(place_through([(0, 3, 0, "x"), (0, 3, 1, "y z")], 0, 3), None)
        self.assertEqual(place_through([(0, 3, 0, "x"), (0, 3, 1, "y z")], 0, 4), 6)
        self.assertEqual(place_through([(0, 3, 0, "x")], 0, 2), 2)

    def test_ends(self):
        edits = [(0, 3, 2, "x")]
        before = repr(edits)
        self.assertEqual([place_through(edits, 0, at) for at in (2, 3, 4, 5)], [2, None, None, 4])
        self.assertEqual(repr(edits), before)


if __name__ == "__main__":
    unittest.main()
