"""Two hands that turn one program."""

import unittest

from helpers import program_of
from requestmakers import any_request
from stepmakers import StepMaker
from turnsame.checking import checked
from turnsame.edits import edited, place_through
from turnsame.errors import Clash, NoRequest, NoTurn, TurnError
from turnsame.hands import gone_by, together
from turnsame.reading import Read
from turnsame.turnings import asked, turned

PROGRAM = program_of("(function f (x) (add x 1)) (open m (p) (say (f (f p)))) ; tail", "(open n (q) (if q (f 1) 2))")


def meet_plainly(program, one, other):
    """The squares in whole: a program and papers, or the places of the first square that does not close."""
    m, n = len(one), len(other)
    # The program behind i and j requests, each hand's requests for it, and their papers.
    grid, ours, theirs, papers = {(0, 0): program}, {}, {}, {}

    def turn(spot, request):
        edits, paper = asked(grid[spot], request)
        return edited(grid[spot], edits), edits, paper

    for i in range(m):
        ours[i, 0] = one[i]
        grid[i + 1, 0], _, papers["one", i, 0] = turn((i, 0), one[i])
    for j in range(n):
        theirs[0, j] = other[j]
        grid[0, j + 1], _, papers["other", 0, j] = turn((0, j), other[j])
    for i in range(m):
        for j in range(n):
            our_edits, their_edits = turn((i, j), ours[i, j])[1], turn((i, j), theirs[i, j])[1]
            ends = []
            for request, edits, spot in ((ours[i, j], their_edits, (i, j + 1)), (theirs[i, j], our_edits, (i + 1, j))):
                at = place_through(edits, request[1], request[2])
                request = request[:2] + (at,) + request[3:]
                try:
                    ends.append((request,) + turn(spot, request))
                except (NoTurn, NoRequest):
                    ends.append((None, len(ends), None, None))
            (ours[i, j + 1], told, _, papers["one", i, j + 1]), (theirs[i + 1, j], again, _, papers["other", i + 1, j]) = ends
            if told != again:
                return one[i][1:3], other[j][1:3]
            grid[i + 1, j + 1] = told
    return grid[m, n], [papers["one", i, 0] for i in range(m)] + [papers["other", m, j] for j in range(n)]


class GoneBy(unittest.TestCase):
    def test_places(self):
        edits = [(0, 3, 2, " a b c"), (0, 8, 0, " d"), (1, 0, 1, "")]
        for at, then in ((0, 0), (2, 2), (3, None), (4, None), (5, 6), (7, 8), (8, 10), (9, 11)):
            told = gone_by(edits, ("take", 0, at))
            self.assertEqual(told, None if then is None else ("take", 0, then))
            self.assertEqual(gone_by(edits, ("put", 0, at, 8, "d", 3)), None if then is None else ("put", 0, then, 8, "d", 3))
        self.assertEqual(gone_by(edits, ("take", 1, 0)), None)
        self.assertEqual(gone_by(edits, ("take", 1, 1)), ("take", 1, 0))
        self.assertEqual(gone_by(edits, ("move", 2, 8, 0)), ("move", 2, 8, 0))
        self.assertEqual(gone_by([], ("rename", 0, 3, "a")), ("rename", 0, 3, "a"))

    def test_all_requests(self):
        for request in (("rename", 0, 5, "n"), ("move", 0, 5, 3), ("put", 0, 5, 3, "n", -4), ("take", 0, 5), ("field", 0, 5, 3), ("draw", 0, 5, "n"),
                        ("inplace", 0, 5), ("flip", 0, 5), ("part", 0, 5, 3), ("name", 0, 5, "n"), ("spread", 0, 5)):
            told = gone_by([(0, 0, 0, "a b")], request)
            self.assertIs(type(told), tuple)
            self.assertEqual(told, request[:2] + (7,) + request[3:])


class Together(unittest.TestCase):
    def meet(self, program, one, other):
        """The program in which both meet, either way about, with papers that are let by along the way."""
        before = repr((program, one, other))
        told = together(program, one, other)
        self.assertIs(type(told), tuple)
        self.assertIs(type(told[1]), list)
        behind, papers = told
        self.assertEqual(len(papers), len(one) + len(other))
        self.assertEqual(told, meet_plainly(program, one, other))
        self.assertEqual(together(program, other, one)[0], behind)
        told[1].append("the asker's own")
        self.assertEqual(together(program, one, other), (behind, papers[:-1]))
        self.assertEqual(repr((program, one, other)), before)
        return behind

    def clash(self, program, one, other, places):
        """The hands clash at these places, and either way about."""
        with self.assertRaises(TurnError) as caught:
            together(program, one, other)
        self.assertIs(type(caught.exception), Clash)
        self.assertEqual((caught.exception.one, caught.exception.other), places)
        self.assertEqual(meet_plainly(program, one, other), places)
        with self.assertRaises(Clash):
            together(program, other, one)

    def refused(self, kind, place, one, other):
        with self.assertRaises(TurnError) as caught:
            together(PROGRAM, one, other)
        self.assertIs(type(caught.exception), kind)
        if place:
            self.assertEqual((caught.exception.part, caught.exception.at), place)

    def test_rows_with_none(self):
        self.assertEqual(together(PROGRAM, [], []), (PROGRAM, []))
        program, paper = turned(PROGRAM, ("rename", 0, 2, "g"))
        self.assertEqual(together(PROGRAM, [("rename", 0, 2, "g")], []), (program, [paper]))
        self.assertEqual(together(PROGRAM, [], [("rename", 0, 2, "g")]), (program, [paper]))

    def test_one_and_one(self):
        self.assertEqual(self.meet(PROGRAM, [("rename", 0, 2, "g")], [("rename", 0, 14, "k")])[0][1], "(function g (x) (add x 1)) (open k (p) (say (g (g p)))) ; tail")
        # The other's place goes by what is laid ahead of it.
        self.assertEqual(self.meet(PROGRAM, [("put", 0, 2, 0, "z", 5)], [("rename", 0, 16, "w")])[0][1], "(function f (z x) (add x 1)) (open m (w) (say (f 5 (f 5 w)))) ; tail")
        self.assertEqual(self.meet(PROGRAM, [("flip", 1, 6)], [("draw", 0, 6, "h")]),
                         program_of("(function f (x) (h x))\n(function h (x) (add x 1)) (open m (p) (say (f (f p)))) ; tail", "(open n (q) (if (not q) 2 (f 1)))"))

    def test_papers_of_the_way(self):
        one, other = [("put", 0, 2, 0, "z", 5), ("rename", 0, 15, "k")], [("rename", 0, 16, "w"), ("flip", 1, 6)]
        program, papers = together(PROGRAM, one, other)
        self.assertEqual(len(papers), 4)
        way = [PROGRAM]
        for request in (one[0], one[1], ("rename", 0, 17, "w"), ("flip", 1, 6)):
            way.append(turned(way[-1], request)[0])
        self.assertEqual(way[-1], program)
        for ahead, behind, paper in zip(way, way[1:], papers):
            self.assertTrue(checked(Read(ahead).core(), Read(behind).core(), paper))

    def test_a_place_that_edits_took(self):
        # The one names what the other takes away.
        self.clash(PROGRAM, [("draw", 0, 22, "h")], [("inplace", 0, 20)], ((0, 22), (0, 20)))
        self.clash(PROGRAM, [("rename", 0, 2, "g")], [("rename", 0, 2, "h")], ((0, 2), (0, 2)))
        self.clash(PROGRAM, [("rename", 0, 2, "g")], [("rename", 0, 2, "g")], ((0, 2), (0, 2)))

    def test_refused_behind_the_other(self):
        # Both want the name.
        self.clash(PROGRAM, [("rename", 0, 2, "k")], [("rename", 0, 14, "k")], ((0, 2), (0, 14)))
        # A call that hands in a deed by then.
        program = program_of("(function f (x y) x) (open m () (let z (say 2) (f 1 z)))")
        self.clash(program, [("take", 0, 5)], [("spread", 0, 14)], ((0, 5), (0, 14)))

    def test_other_programs_in_the_end(self):
        # Both move a form behind the last one of the same part: which is last hangs on who was first.
        program = program_of("(function f () 1) (function g () 2)", "(open m () 3)")
        self.clash(program, [("move", 0, 2, 1)], [("move", 0, 9, 1)], ((0, 2), (0, 9)))

    def test_the_first_square_that_does_not_close(self):
        one = [("rename", 0, 16, "w"), ("rename", 0, 2, "k"), ("rename", 0, 4, "y")]
        other = [("rename", 1, 4, "r"), ("rename", 0, 4, "z"), ("rename", 0, 14, "k")]
        self.clash(PROGRAM, one, other, ((0, 2), (0, 14)))
        # By the one's number first, then by the other's.
        self.clash(PROGRAM, one[2:] + one[1:2], other, ((0, 4), (0, 4)))
        # Places as handed in, though they moved.
        one = [("put", 0, 2, 0, "z", 5), ("rename", 0, 15, "k")]
        self.clash(PROGRAM, one, [("rename", 0, 14, "j")], ((0, 15), (0, 14)))

    def test_a_row_that_is_refused_by_itself(self):
        wrong, wrong_other = ("rename", 0, 0, "g"), ("rename", 1, 0, "g")
        self.refused(NoTurn, (0, 0), [wrong], [])
        self.refused(NoTurn, (1, 0), [], [wrong_other])
        self.refused(NoTurn, (0, 0), [wrong], [wrong_other])
        self.refused(NoTurn, (0, 0), [("rename", 0, 2, "g"), wrong], [("rename", 0, 2, "h"), wrong_other])
        # Ahead of a clash.
        self.refused(NoTurn, (1, 0), [("rename", 0, 2, "g")], [("rename", 0, 2, "h"), wrong_other])
        self.refused(NoRequest, None, [("rename", 0, 2)], [wrong])
        self.refused(NoRequest, None, [("rename", 0, 2, "g")], [None])
        self.refused(NoTurn, (0, 0), [wrong], [None])

    def test_six_and_six(self):
        program = program_of(*[f"(open {name} (a b) (if b (say a) (add a b)))" for name in "mnopqr"])
        one = [("flip", part, 7) for part in range(6)]
        other = [("rename", part, 2, name) for part, name in enumerate("stuvwx")]
        self.assertEqual(self.meet(program, one, other), program_of(*[f"(open {name} (a b) (if (not b) (add a b) (say a)))" for name in "stuvwx"]))
        # The last square of all.
        other[5] = ("rename", 5, 9, "c")
        self.clash(program, one, other, ((5, 7), (5, 9)))

    def row_of(self, chance, program):
        row = []
        for _ in range(chance.randint(0, 6)):
            request = any_request(chance, program)
            try:
                program, _ = turned(program, request)
                row.append(request)
            except NoTurn:
                pass
        return row

    def test_made_by_chance(self):
        met = {"meet": 0, "clash": 0}
        for seed in range(120):
            maker = StepMaker(seed)
            if all(len(row) < 150 for row in maker.rows):
                program = maker.program()
                one, other = self.row_of(maker.chance, program), self.row_of(maker.chance, program)
                wanted = meet_plainly(program, one, other)
                if isinstance(wanted[0][0], tuple):
                    self.assertEqual(self.meet(program, one, other), wanted[0])
                    met["meet"] += 1
                else:
                    self.clash(program, one, other, wanted)
                    met["clash"] += 1
        self.assertGreater(min(met.values()), 10, met)


if __name__ == "__main__":
    unittest.main()
