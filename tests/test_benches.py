"""Benches: turnings done, taken back and done once more."""

import itertools
import random
import unittest

from helpers import program_of
from turnsame.benches import Bench
from turnsame.checking import checked
from turnsame.errors import NoMore, NoRequest, NoTurn, TurnError
from turnsame.reading import Read
from turnsame.turnings import turned

PROGRAM = program_of("(function f (x) (add x 1)) (open m (p) (say (f (f p)))) ; tail", "(open n () 1)")
REQUESTS = (("rename", 0, 2, "g"), ("draw", 0, 20, "h"), ("put", 0, 2, 1, "y", 3))


class Benches(unittest.TestCase):
    def refused(self, kind, ask, *more):
        with self.assertRaises(TurnError) as caught:
            ask(*more)
        self.assertIs(type(caught.exception), kind)

    def look(self, bench):
        return bench.program(), bench.requests(), bench.papers()

    def test_at_first(self):
        bench = Bench(PROGRAM)
        self.assertEqual(self.look(bench), (PROGRAM, [], []))
        self.refused(NoMore, bench.undo)
        self.refused(NoMore, bench.redo)
        self.assertEqual(self.look(bench), (PROGRAM, [], []))

    def done(self):
        """A bench with all requests done, and what it has to tell behind each of them."""
        bench, program, papers, looks = Bench(PROGRAM), PROGRAM, [], [(PROGRAM, [], [])]
        for number, request in enumerate(REQUESTS):
            self.assertIsNone(bench.turn(request))
            program, paper = turned(program, request)
            papers = papers + [paper]
            looks.append((program, list(REQUESTS[:number + 1]), papers))
        return bench, looks

    def test_turnings(self):
        bench, looks = self.done()
        self.assertEqual(self.look(bench), looks[3])
        self.assertEqual(len({program for program, _, _ in looks}), 4)
        for number, paper in enumerate(bench.papers()):
            self.assertTrue(checked(Read(looks[number][0]).core(), Read(looks[number + 1][0]).core(), paper))

    def test_taken_back_and_done_once_more(self):
        bench, looks = self.done()
        for number in (2, 1, 0):
            self.assertIsNone(bench.undo())
            self.assertEqual(self.look(bench), looks[number])
        self.refused(NoMore, bench.undo)
        for number in (1, 2, 3):
            self.assertIsNone(bench.redo())
            self.assertEqual(self.look(bench), looks[number])
        self.refused(NoMore, bench.redo)
        self.assertEqual(self.look(bench), looks[3])

    def test_a_turning_behind_one_taken_back(self):
        bench, looks = self.done()
        bench.undo()
        bench.undo()
        bench.turn(("rename", 0, 14, "k"))
        self.assertEqual(bench.requests(), [REQUESTS[0], ("rename", 0, 14, "k")])
        self.refused(NoMore, bench.redo)
        bench.undo()
        self.assertEqual(self.look(bench), looks[1])
        bench.redo()
        self.assertEqual(bench.requests(), [REQUESTS[0], ("rename", 0, 14, "k")])

    def test_what_is_refused_leaves_all(self):
        bench, looks = self.done()
        bench.undo()
        for request, kind in ((("rename", 0, 0, "k"), NoTurn), (("rename", 0, 2, "m"), NoTurn), (("rename", 0, 2), NoRequest), (None, NoRequest), (["take", 0, 0], NoRequest)):
            self.refused(kind, bench.turn, request)
            self.assertEqual(self.look(bench), looks[2])
        # What was taken back, too.
        bench.redo()
        self.assertEqual(self.look(bench), looks[3])

    def test_a_turning_without_edits(self):
        bench = Bench(PROGRAM)
        bench.turn(("rename", 0, 2, "f"))
        self.assertEqual((bench.program(), bench.requests()), (PROGRAM, [("rename", 0, 2, "f")]))
        bench.undo()
        self.assertEqual(self.look(bench), (PROGRAM, [], []))

    def test_what_is_told_is_the_askers_own(self):
        bench, looks = self.done()
        for told in (bench.requests(), bench.papers()):
            self.assertIs(type(told), list)
            told.clear()
            told.append("other")
        self.assertEqual(self.look(bench), looks[3])
        self.assertIs(type(bench.program()), tuple)

    def test_two_benches(self):
        one, other = Bench(PROGRAM), Bench(PROGRAM)
        one.turn(REQUESTS[0])
        self.assertEqual(self.look(other), (PROGRAM, [], []))
        self.refused(NoMore, other.undo)
        other.turn(REQUESTS[1])
        one.undo()
        self.assertEqual(one.program(), PROGRAM)
        self.assertEqual(other.requests(), [REQUESTS[1]])
        self.refused(NoMore, other.redo)

    def test_many_orders(self):
        """Each row of six moves, beside a list of programs and where in it one is."""
        for moves in itertools.product(("turn", "undo", "redo"), repeat=6):
            chance = random.Random(str(moves))
            bench, row, at = Bench(PROGRAM), [(PROGRAM, None)], 0
            for move in moves:
                if move == "turn":
                    request = ("rename", 0, 2, chance.choice("abcdefgh"))
                    bench.turn(request)
                    row[at + 1:] = [(turned(row[at][0], request)[0], request)]
                    at += 1
                elif move == "undo" and at or move == "redo" and at + 1 < len(row):
                    getattr(bench, move)()
                    at += 1 if move == "redo" else -1
                else:
                    self.refused(NoMore, getattr(bench, move))
                self.assertEqual(bench.program(), row[at][0])
                self.assertEqual(bench.requests(), [request for _, request in row[1:at + 1]])


if __name__ == "__main__":
    unittest.main()
