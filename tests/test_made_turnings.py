"""Turnings of programs made by chance, beside a plain way to tell what stands against them."""

import unittest

from makers import Maker
from plainnames import PlainNames
from turnings import Turnings, answer
from turnsame.moving import moved
from turnsame.reading import Read
from turnsame.renaming import renamed
from turnsame.tokens import text_of, tokens_of
from turnsame.words import is_name

MANY = 150
NAMES = ("a", "b", "c", "v", "fa", "fb", "fc", "rx", "ry", "do", "")


def rows_of(program):
    return [tokens_of(text)[0] for _, text in program]


def with_rows(program, rows):
    return tuple((name, text_of(row, tokens_of(text)[1])) for (name, text), row in zip(program, rows))


def form_names(program):
    """The places of all functions' and records' names in their forms."""
    return [(part, nodes[1][0]) for part, tree in enumerate(PlainNames(program).trees) for _, nodes, _ in tree]


def renamed_plainly(program, place, name):
    """The refusal that is due, or the program told."""
    names = PlainNames(program)
    thing = names.meant.get(place)
    if thing is None or not is_name(name):
        return ("name",) + place
    rows = rows_of(program)
    for (part, at), other in names.meant.items():
        if other == thing:
            rows[part][at] = (rows[part][at][0], name)
    told = with_rows(program, rows)
    then = PlainNames(told)
    used = [other for one, other in then.twice() if one == thing]
    if used:
        return ("used",) + min(used)
    shaded = [spot for spot in names.meant if then.meant[spot] != names.meant[spot]]
    return ("shade",) + min(shaded) if shaded else told


def moved_plainly(program, place, other):
    names = PlainNames(program)
    part, at = place
    rows = rows_of(program)
    told_in_form = 0 <= part < len(rows) and 2 <= at < len(rows[part]) and rows[part][at - 1][1] in ("record", "function", "deep", "open")
    if not told_in_form:
        return ("name",) + place
    if other not in range(len(program)) or other == part:
        return ("part",) + place
    (first, last), = [(node[0], node[2]) for node in names.trees[part] if node[0] == at - 2]
    tables = names.records if rows[part][at - 1][1] == "record" else names.functions
    if rows[part][at][1] in tables[other]:
        return ("used",) + tables[other][rows[part][at][1]]

    def place_then(spot):
        if spot is None or spot[0] != part or spot[1] < first:
            return spot
        return (other, len(rows[other]) + spot[1] - first) if spot[1] <= last else (part, spot[1] - (last - first + 1))
    laid = [list(row) for row in rows]
    laid[other] += rows[part][first:last + 1]
    del laid[part][first:last + 1]
    told = with_rows(program, laid)
    then = PlainNames(told)
    shaded = [spot for spot, thing in names.meant.items() if then.meant[place_then(spot)] != place_then(thing)]
    return ("shade",) + min(shaded) if shaded else told


class Made(Turnings):
    def alike(self, maker, ask, plainly, program, place, more, met):
        """The program behind the turning, or as it is, where it is refused."""
        told = answer(ask, program, place, more)
        wanted = plainly(program, place, *more)
        if len(told) == 3:
            self.assertEqual(told, wanted, (program, place, more))
            met[told[0]] = met.get(told[0], 0) + 1
            return program
        behind = self.sound(program, *told)
        self.assertEqual(behind, wanted, (program, place, more))
        self.same_runs(maker.chance, program, behind, told[1][4])
        met["told"] = met.get("told", 0) + 1
        return behind

    def any_place(self, maker, program):
        part = maker.chance.randrange(len(program))
        return part, maker.chance.randint(-1, len(Read(program).words(part)))

    def chosen(self, maker, program):
        """A place and a name, such as are likely to be used or to shade, often."""
        meant = PlainNames(program).meant
        forms = form_names(program)
        if maker.chance.random() < 0.5:
            return maker.chance.choice([spot for spot, thing in meant.items() if thing in forms]), maker.chance.choice(("x", "y"))
        return maker.chance.choice(sorted(meant) + [self.any_place(maker, program)]), maker.chance.choice(NAMES)

    def test_turnings(self):
        met, met_moves = {}, {}
        for seed in range(MANY):
            maker = Maker(seed)
            if any(len(row) > 150 for row in maker.rows):
                continue
            program = maker.program() + (("more", ""),)
            for _ in range(14):
                place, name = self.chosen(maker, program)
                program = self.alike(maker, renamed, renamed_plainly, program, place, (name,), met)
                place = maker.chance.choice(form_names(program) + [self.any_place(maker, program)])
                other = maker.chance.choice(list(range(len(program))) * 4 + [-1, len(program)])
                program = self.alike(maker, moved, moved_plainly, program, place, (other,), met_moves)
        for counts, words in ((met, ("name", "used", "shade", "told")), (met_moves, ("name", "part", "used", "shade", "told"))):
            self.assertEqual(sorted(counts), sorted(words), counts)
            self.assertGreater(min(counts.values()), 5, counts)


if __name__ == "__main__":
    unittest.main()
