"""What is asked of all turnings: the program edited is right, its paper is let by, and so on."""

import unittest

from helpers import asked_program, program_of
from turnsame.checking import back_paper, checked
from turnsame.edits import back_edits, edited
from turnsame.errors import NoTurn, TurnError
from turnsame.reading import Read
from turnsame.running import run
from turnsame.tokens import tokens_of


def answer(ask, program, place, more):
    """What is told, or why it is refused and where."""
    try:
        return ask(program, *place, *more)
    except NoTurn as refusal:
        return refusal.word, refusal.part, refusal.at


class Turnings(unittest.TestCase):
    def sound(self, program, edits, paper):
        """The edited program, where the turning is as each one has to be."""
        self.assertIs(type(edits), list)
        for edit in edits:
            self.assertIs(type(edit), tuple)
            self.assertEqual([type(part) for part in edit], [int, int, int, str])
        self.assertIs(type(paper), tuple)
        self.assertEqual([type(part) for part in paper], [tuple] * 5)
        told = edited(program, edits)
        one, other = Read(program).core(), Read(told).core()
        self.assertIs(checked(one, other, paper), True)
        self.assertIs(checked(other, one, back_paper(paper)), True)
        self.assertEqual(edited(told, back_edits(program, edits)), program)
        return told

    def turned(self, ask, texts, more, behind):
        """The paper of a turning asked at the place marked, which tells these texts."""
        program, place, _ = asked_program(*texts)
        before = repr(program)
        turning = ask(program, *place, *more)
        self.assertIs(type(turning), tuple)
        edits, paper = turning
        self.assertEqual(self.sound(program, edits, paper), program_of(*behind), texts)
        edits.append("the asker's own")
        self.assertEqual(ask(program, *place, *more), (edits[:-1], paper))
        self.assertEqual(repr(program), before)
        return paper

    def refused_at(self, ask, program, place, more, word, against):
        with self.assertRaises(TurnError) as caught:
            ask(program, *place, *more)
        told = caught.exception
        self.assertIs(type(told), NoTurn)
        self.assertEqual((told.word, (told.part, told.at)), (word, against), (program, place, more))

    def refused(self, ask, texts, more, word):
        """Refused at the place marked by ^, or else at the one asked."""
        program, place, against = asked_program(*texts)
        self.refused_at(ask, program, place, more, word, against or place)

    def takes_only(self, program, edits, allowed):
        """No edit takes another token than these, but one behind it that would run into a word, told anew."""
        rows = [tokens_of(text)[0] for _, text in program]
        for part, at, many, text in edits:
            more = [one for one in range(at, at + many) if (part, one) not in allowed]
            if more:
                self.assertEqual(more, [at + many - 1], (program, edits))
                gap, word = rows[part][more[0]]
                self.assertEqual(gap, "")
                self.assertNotIn(word, ("(", ")"))
                self.assertEqual(tokens_of(text)[0][-1], (" ", word))

    def same_runs(self, chance, program, told, opens=()):
        """Runs of all open functions tell the same, by the names that the pairs lay on one another."""
        one, other = Read(program).core(), Read(told).core()
        names = dict(opens)
        for name, number in other[2]:
            values = [chance.choice((0, 1, 5, (), (1, 2))) for _ in range(other[0][number][1])]
            for bound in (0, 2, 20):
                self.assertEqual(run(other, name, values, bound), run(one, names.get(name, name), values, bound))
