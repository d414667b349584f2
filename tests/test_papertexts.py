"""Papers written as lines, and read again."""

import unittest

from turnsame.errors import NoLines, TurnError
from turnsame.papertexts import paper_lines, read_paper

EMPTY = ((), (), (), (), ())
FULL = (
    (("unfold", 0, ()), ("spread", 1, (0,)), ("now", 12, (0, 10, 2)), ("flip", 0, (1, 1)), ("flat", 3, ())),
    (("drop", 0, (2,), 4), ("swap", 1, (), 0), ("part", 2, (0, 1), 10), ("lose", 7), ("param", 3, 2), ("fields", 1, (2, 0, 1)), ("lost", 0), ("fields", 0, ())),
    (1, 0, 12, 10 ** 39),
    (0,),
    (("a", "c"), ("b", "a"), ("longname", "z")),
)
FULL_LINES = [
    "there unfold 0 -", "there spread 1 0", "there now 12 0.10.2", "there flip 0 1.1", "there flat 3 -",
    "back drop 0 2 4", "back swap 1 - 0", "back part 2 0.1 10", "back lose 7", "back param 3 2", "back fields 1 2.0.1", "back lost 0", "back fields 0 -",
    "functions 1 0 12 1" + "0" * 39, "records 0", "open a c", "open b a", "open longname z",
]


class PaperTexts(unittest.TestCase):
    def both_ways(self, paper, lines):
        told = paper_lines(paper)
        self.assertEqual(told, lines)
        self.assertIs(type(told), list)
        told.append("the asker's own")
        self.assertEqual(paper_lines(paper), lines)
        read = read_paper(lines)
        self.assertEqual(repr(read), repr(paper))

    def refused(self, lines, row):
        before = list(lines)
        with self.assertRaises(TurnError) as caught:
            read_paper(lines)
        self.assertIs(type(caught.exception), NoLines)
        self.assertEqual(caught.exception.row, row, lines)
        self.assertEqual(lines, before)

    def test_no_steps(self):
        self.both_ways(EMPTY, ["functions", "records"])
        self.both_ways(((), (), (0, 1), (), ()), ["functions 0 1", "records"])
        self.both_ways(((), (), (), (2, 0, 1), ()), ["functions", "records 2 0 1"])
        self.both_ways(((), (), (0,), (), (("b", "a"),)), ["functions 0", "records", "open b a"])

    def test_steps(self):
        self.both_ways(FULL, FULL_LINES)
        self.both_ways(((), FULL[0], (), (), ()), [line.replace("there", "back") for line in FULL_LINES[:5]] + ["functions", "records"])
        self.both_ways((FULL[1], (), (), (), ()), [line.replace("back", "there") for line in FULL_LINES[5:13]] + ["functions", "records"])

    def test_each_line_alone_is_there_once(self):
        # Each one left out: of steps and opens nobody knows, the two rows lack.
        for number, line in enumerate(FULL_LINES):
            lines = FULL_LINES[:number] + FULL_LINES[number + 1:]
            if line.startswith(("functions", "records")):
                self.refused(lines, number)
            else:
                read = read_paper(lines)
                self.assertEqual(paper_lines(read), lines)

    def test_lines_that_lack(self):
        self.refused([], 0)
        self.refused(["functions"], 1)
        self.refused(["there lose 0"], 1)
        self.refused(["there lose 0", "back lose 0"], 2)
        self.refused(["there lose 0", "functions 0"], 2)
        for number in range(len(FULL_LINES) - 4):
            self.refused(FULL_LINES[:number], number)

    def test_another_order(self):
        self.refused(["records", "functions"], 0)
        self.refused(["back lose 0", "there lose 0", "functions", "records"], 1)
        self.refused(["functions", "there lose 0", "records"], 1)
        self.refused(["functions", "records", "back lose 0"], 2)
        self.refused(["open a b", "functions", "records"], 0)
        self.refused(["functions", "open a b", "records"], 1)
        self.refused(["functions", "records", "functions"], 2)
        self.refused(["functions", "functions", "records"], 1)
        self.refused(["functions", "records", "open a b", "records"], 3)

    def test_lines_too_many(self):
        for line in ("", " ", "-", "end", "open", "functions 0", "there lose 0", "records"):
            self.refused(["functions", "records", line], 2)
            self.refused(FULL_LINES + [line], len(FULL_LINES))

    def test_steps_that_are_none(self):
        for line in ("there", "there ", "there lose", "there lose 0 0", "there lose -", "there lose a", "there lose -1", "there lose 00", "there lose 01",
                     "there lose  0", " there lose 0", "there lose 0 ", "There lose 0", "there Lose 0", "there loose 0", "there unfold 0", "there unfold 0 - 0",
                     "there unfold 0 .", "there unfold 0 0.", "there unfold 0 .0", "there unfold 0 0..1", "there unfold 0 0.01", "there unfold 0 0,1",
                     "there unfold - 0", "there drop 0 0", "there drop 0 0 -", "there drop 0 0 0.0", "there swap 0 - 00", "there param 0", "there param 0 -",
                     "there param 0 0.0", "there fields 0", "there fields 0 0.1 1", "there fields 0 --", "there fields 0 0.-", "there lost", "there lost 1.0",
                     "there lose 0\n", "\nthere lose 0", "there\nlose 0", "there lose +1", "there lose 1_0", "there lose 0x1", "therelose 0", "there there lose 0"):
            self.refused([line, "functions", "records"], 0)
            self.refused(["there lose 5", line, "functions", "records"], 1)
            back = line.replace("there", "back").replace("There", "Back")
            self.refused(["there lose 5", "back lose 5", back, "functions", "records"], 2)

    def test_rows_that_are_none(self):
        for more in (" ", " a", " -", " 00", " 01", "  1", " 1 ", " 1  2", " 1.2", " -1", " +1", " 1\n", "\n", " 1,2"):
            self.refused(["functions" + more, "records"], 0)
            self.refused(["functions 0", "records" + more], 1)
        self.refused(["function", "records"], 0)
        self.refused(["functions", "record"], 1)

    def test_numbers_need_not_be_right(self):
        # Whether they are so is for the checker.
        self.assertEqual(read_paper(["there lose 99", "functions 5 5", "records 7"]), ((("lose", 99),), (), (5, 5), (7,), ()))

    def test_opens(self):
        for line in ("open", "open a", "open a b c", "open a ", "open  a b", " open a b", "open a b ", "open A b", "open a B", "open do a", "open a do",
                     "open 1 a", "open a 1", "open toolongname a", "open a toolongname", "open a b\n", "Open a b", "opens a b"):
            self.refused(["functions", "records", line], 2)
            self.refused(["functions", "records", "open a z", line], 3)

    def test_opens_that_do_not_rise(self):
        self.refused(["functions", "records", "open b a", "open a b"], 3)
        self.refused(["functions", "records", "open a c", "open a b"], 3)
        self.refused(["functions", "records", "open a c", "open c b", "open b d"], 4)
        # The former names may stand in any order.
        self.assertEqual(read_paper(["functions", "records", "open a z", "open b y"])[4], (("a", "z"), ("b", "y")))

    def test_the_first_line_that_can_not_stand(self):
        self.refused(["there lose 0", "there lose", "functions x", "record"], 1)
        self.refused(["functions", "records 01", "open A b"], 1)


if __name__ == "__main__":
    unittest.main()
