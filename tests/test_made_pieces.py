"""Turnings of params, fields and expressions in programs made by chance, beside a plain way to tell them."""

import unittest

import plainturnings as plain
from plaintrees import PlainTrees
from stepmakers import StepMaker, VarMaker
from turnings import Turnings, answer
from turnsame.bounds import is_bounded
from turnsame.drawing import drawn
from turnsame.edits import edited
from turnsame.fields import moved_field
from turnsame.inplace import put_in_place
from turnsame.moving import moved
from turnsame.naming import named, spread
from turnsame.params import put_param, take_param
from turnsame.reading import Read
from turnsame.renaming import renamed
from turnsame.tokens import tokens_of
from turnsame.turning import flipped, parted

MANY = 120
NAMES = ("a", "b", "c", "v", "w", "fa", "fb", "fc", "new", "")
LONGEST = 250


def words_of(program):
    return [[word for _, word in tokens_of(text)[0]] for _, text in program]


class Made(Turnings):
    def alike(self, chance, ask, plainly, program, place, more, met):
        """The program behind the turning, or as it is, where it is refused."""
        given = answer(ask, program, place, more)
        wanted = plainly(program, place, *more)
        case = (ask.__name__, program, place, more)
        if given[0] == "many":
            self.assertEqual(len(wanted), 4, case)
            self.assertFalse(is_bounded(wanted[0]), case)
            return program
        if len(given) == 3:
            self.assertEqual(given, wanted, case)
            met[given[0]] = met.get(given[0], 0) + 1
            return program
        edits, paper = given
        behind, taken, there, back = wanted
        self.assertEqual(self.sound(program, edits, paper), behind, case)
        functions, records, _ = Read(program).core()
        self.assertEqual(paper, (there, back, tuple(range(len(functions))), tuple(range(len(records))), ()), case)
        self.takes_only(program, edits, taken)
        self.same_runs(chance, program, behind)
        met["told"] = met.get("told", 0) + 1
        return behind

    def programs(self):
        for seed in range(MANY):
            maker = (StepMaker if seed & 2 else VarMaker)(seed)
            if all(len(row) <= LONGEST for row in maker.rows):
                yield maker.chance, maker.tight_program() if seed & 1 else maker.program()

    def any_place(self, chance, program):
        part = chance.randrange(len(program))
        return part, chance.randint(-1, len(Read(program).words(part)))

    def expressions(self, program, word=None):
        return [place for place, one in sorted(PlainTrees(program).exprs.items()) if word in (None, one.word)]

    def walk(self, ask, plainly, places, more, words, rounds=8):
        """Turnings one behind the other; places and more tell, by chance, what is asked."""
        met = {}
        for chance, program in self.programs():
            for _ in range(rounds):
                found = places(program)
                place = chance.choice(found) if found and chance.random() < 0.95 else self.any_place(chance, program)
                program = self.alike(chance, ask, plainly, program, place, more(chance), met)
                if any(len(text) > 4000 for _, text in program):
                    break
        self.assertEqual(sorted(met), sorted(words + ("told",)))
        self.assertGreater(min(met.values()), 3, met)

    def test_put_param(self):
        def more(chance):
            return chance.randint(-1, 3), chance.choice(NAMES), chance.choice((0, 7, -5, 32767, -32768, 32768))
        self.walk(put_param, plain.put_plainly, lambda program: PlainTrees(program).functions, more, ("name", "open", "used"))

    def test_take_param(self):
        def places(program):
            trees = PlainTrees(program)
            return [param for form in trees.functions for param in trees.forms[form][2]]
        self.walk(take_param, plain.take_plainly, places, lambda chance: (), ("name", "open", "used", "deed"), 20)

    def test_put_in_place(self):
        met = {}
        for chance, program in self.programs():
            program = self.renamed_alike(chance, program + (("more", ""),))
            for _ in range(5):
                calls = self.expressions(program, "call")
                place = chance.choice(calls) if calls and chance.random() < 0.95 else self.any_place(chance, program)
                program = self.alike(chance, put_in_place, plain.inplace_plainly, program, place, (), met)
                if any(len(text) > 4000 for _, text in program):
                    break
        self.assertEqual(sorted(met), ["deep", "name", "shade", "told"])
        self.assertGreater(min(met.values()), 3, met)

    def renamed_alike(self, chance, program):
        """The program with functions and records moved and renamed, so that those of several parts have like names."""
        for _ in range(12):
            trees = PlainTrees(program)
            place = chance.choice(sorted(trees.forms))
            told = answer(renamed, program, place, (chance.choice("xy"),))
            if len(told) == 3:
                told = answer(moved, program, place, (chance.randrange(len(program)),))
            program = edited(program, told[0]) if len(told) == 2 else program
        return program

    def test_moved_field(self):
        def places(program):
            return [place for place, thing in Read(program).all_places() if thing[0] == "field"]
        self.walk(moved_field, plain.field_plainly, places, lambda chance: (chance.randint(-1, 3),), ("name", "deed"))

    def test_drawn(self):
        self.walk(drawn, plain.draw_plainly, self.expressions, lambda chance: (chance.choice(NAMES),), ("name", "used", "shade", "set"), 5)

    def test_drawn_shades(self):
        met = {}
        for chance, program in self.programs():
            # Functions come to stand in other parts than those that call them.
            program = (("front", ""),) + program
            trees = PlainTrees(program)
            forms = [place for place in trees.functions if trees.word((place[0], place[1] - 1)) != "open"]
            for _ in range(6):
                place = chance.choice(self.expressions(program) + [(0, 0)])
                name = chance.choice([trees.word(form) for form in forms] + ["w"])
                self.alike(chance, drawn, plain.draw_plainly, program, place, (name,), met)
        self.assertGreater(met["shade"], 10, met)

    def test_flipped(self):
        self.walk(flipped, plain.flip_plainly, lambda program: self.expressions(program, "if"), lambda chance: (), ("name",))

    def test_parted(self):
        self.walk(parted, plain.part_plainly, lambda program: self.expressions(program, "each"),
                  lambda chance: (chance.randint(0, 3),), ("name", "set", "deed"), 12)

    def test_named(self):
        self.walk(named, plain.name_plainly, self.expressions, lambda chance: (chance.choice(NAMES),),
                  ("name", "used", "shade", "set", "deed"), 10)

    def test_named_and_spread(self):
        met = {True: 0, False: 0}
        for chance, program in self.programs():
            trees = PlainTrees(program)
            for place in chance.sample(self.expressions(program), 6) if len(trees.exprs) > 6 else ():
                around = trees.exprs[place].parent
                told = answer(named, program, place, ("w",)) if around else ()
                if len(told) == 2:
                    once = edited(program, told[0])
                    edits, _ = spread(once, *around.place)
                    no_blank = self.kept_gaps(trees.rows, told[0]) and self.kept_gaps(PlainTrees(once).rows, edits)
                    again = edited(once, edits)
                    self.assertEqual(words_of(again), words_of(program))
                    if no_blank:
                        self.assertEqual(again, program)
                    met[no_blank] += 1
        self.assertGreater(min(met.values()), 20, met)

    def kept_gaps(self, rows, edits):
        """True where no blank went between: edits begin with the gap of what they take, and take no token besides."""
        for part, at, many, text in edits:
            if many and text:
                tokens, last = tokens_of(text)[0], rows[part][at + many - 1]
                if tokens[0][0] != rows[part][at][0] or len(tokens) > 1 and last[0] == "" and tokens[-1] == (" ", last[1]):
                    return False
        return True

    def test_spread(self):
        self.walk(spread, plain.spread_plainly, lambda program: self.expressions(program, "let"), lambda chance: (),
                  ("name", "shade", "set", "deed"), 6)


if __name__ == "__main__":
    unittest.main()
