"""Over the whole: rows of requests of all sorts, asked of programs made by chance."""

import unittest

from requestmakers import any_request
from stepmakers import StepMaker, VarMaker
from turnings import Turnings
from turnsame.benches import Bench
from turnsame.checking import back_paper, checked
from turnsame.edits import back_edits, edited
from turnsame.errors import NoMore, NoTurn, NoRow
from turnsame.desk import Desk
from turnsame.hands import together
from turnsame.papertexts import paper_lines, read_paper
from turnsame.reading import Read
from turnsame.turnings import asked

MANY = 60
WORDS = "rename move put take field draw inplace flip part name spread".split()


class Whole(Turnings):
    def programs(self, many=MANY):
        for seed in range(many):
            maker = (StepMaker if seed & 2 else VarMaker)(seed)
            if all(len(row) < 200 for row in maker.rows):
                yield maker.chance, (maker.tight_program() if seed & 1 else maker.program())

    def turn(self, bench, request):
        """True where the request is told, as each turning has to be."""
        ahead = bench.program()
        try:
            edits, paper = asked(ahead, request)
        except NoTurn as refusal:
            self.assertTrue(0 <= refusal.part < len(ahead))
            self.assertTrue(0 <= refusal.at <= len(Read(ahead).words(refusal.part)))
            with self.assertRaises(NoTurn):
                bench.turn(request)
            self.assertEqual(bench.program(), ahead)
            return False
        bench.turn(request)
        behind = bench.program()
        self.assertEqual(behind, edited(ahead, edits))
        self.assertEqual(edited(behind, back_edits(ahead, edits)), ahead)
        one, other = Read(ahead).core(), Read(behind).core()
        self.assertIs(checked(one, other, paper), True)
        self.assertIs(checked(other, one, back_paper(paper)), True)
        self.assertEqual(read_paper(paper_lines(paper)), paper)
        return True

    def former_names(self, papers):
        """The pairs of open names of the program now and of the first one."""
        names = {}
        for paper in papers:
            told = dict(paper[4])
            gone = {former: names.get(former, former) for former in told.values()}
            names = {name: first for name, first in names.items() if name not in gone}
            names.update({name: gone[former] for name, former in told.items()})
        return tuple(names.items())

    def test_rows_of_requests(self):
        met = dict.fromkeys(WORDS, 0)
        for chance, program in self.programs():
            bench, programs = Bench(program), [program]
            for word in WORDS * 2:
                request = any_request(chance, bench.program(), word)
                if sum(len(text) for _, text in bench.program()) < 5000 and self.turn(bench, request):
                    programs.append(bench.program())
                    met[word] += 1
            self.same_runs(chance, program, bench.program(), self.former_names(bench.papers()))
            for former in programs[-2::-1]:
                bench.undo()
                self.assertEqual(bench.program(), former)
            with self.assertRaises(NoMore):
                bench.undo()
            for later in programs[1:]:
                bench.redo()
                self.assertEqual(bench.program(), later)
        self.assertGreater(min(met.values()), 3, met)

    def test_a_desk_tells_what_a_bench_tells(self):
        for chance, program in self.programs(20):
            desk, bench = Desk(), Bench(program)
            for name, text in program:
                desk.say(f"part {name}\n{text}")
            names = [name for name, _ in program]
            for word in WORDS:
                request = any_request(chance, bench.program(), word)
                row = [request[0], names[request[1]]] + [str(part) for part in request[2:]]
                if word == "move":
                    row[3] = names[request[3]]
                try:
                    bench.turn(request)
                except NoTurn as refusal:
                    with self.assertRaises(NoTurn) as caught:
                        desk.say(" ".join(row))
                    self.assertEqual(str(caught.exception), str(refusal))
                else:
                    self.assertEqual(desk.say(" ".join(row)), "ok")
                    self.assertEqual(desk.say("paper").split("\n"), paper_lines(bench.papers()[-1]))
                    self.assertEqual(desk.say("check\n" + desk.say("paper")), "let by")
                self.assertEqual(tuple((name, desk.say(f"text {name}")) for name in names), bench.program())
            self.assertEqual(desk.say("done"), str(len(bench.requests())))
            with self.assertRaises(NoRow):
                desk.say("text nobody")

    def test_a_hand_alone_is_a_bench(self):
        for chance, program in self.programs(20):
            bench = Bench(program)
            for _ in range(12):
                if len(bench.requests()) < 6:
                    request = any_request(chance, bench.program())
                    try:
                        bench.turn(request)
                    except NoTurn:
                        continue
            wanted = bench.program(), bench.papers()
            self.assertEqual(together(program, bench.requests(), []), wanted)
            self.assertEqual(together(program, [], bench.requests()), wanted)


if __name__ == "__main__":
    unittest.main()
