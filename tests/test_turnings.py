"""What can be asked, and the program that comes of it."""

import unittest

from helpers import program_of
from turnings import Turnings
from turnsame.drawing import drawn
from turnsame.edits import edited
from turnsame.errors import NoRequest, NoTurn, TurnError
from turnsame.fields import moved_field
from turnsame.inplace import put_in_place
from turnsame.moving import moved
from turnsame.naming import named, spread
from turnsame.params import put_param, take_param
from turnsame.renaming import renamed
from turnsame.turning import flipped, parted
from turnsame.turnings import asked, is_request, turned

PROGRAM = program_of(
    "(record r a b) (function f (x y) (add x 1)) (open m (p) (if p (f 1 2) (each i (row 1 2) (do (say i) 3))))",
    "(open n (q) (let z (new r q 2) (get r a z)))",
)
# A request of each sort that is told, and one that is refused with name, and what each asks.
RIGHT = {
    ("rename", 0, 2, "s"): renamed,
    ("move", 0, 2, 1): moved,
    ("put", 0, 8, 1, "z", -5): put_param,
    ("take", 0, 11): take_param,
    ("field", 0, 3, 1): moved_field,
    ("draw", 0, 25, "g"): drawn,
    ("inplace", 0, 28): put_in_place,
    ("flip", 0, 25): flipped,
    ("part", 0, 33, 1): parted,
    ("name", 0, 27, "w"): named,
    ("spread", 1, 6): spread,
}


class Requests(unittest.TestCase):
    def test_each_one(self):
        for request in RIGHT:
            self.assertIs(is_request(request), True, request)
        self.assertEqual([request[0] for request in RIGHT], "rename move put take field draw inplace flip part name spread".split())

    def test_numbers_that_there_are_not(self):
        for request in (("take", 7, 10 ** 39), ("field", 0, 0, 10 ** 39), ("move", 0, 0, 99), ("put", 0, 0, 9, "", -10 ** 39), ("rename", 0, 0, "Not a name\n")):
            self.assertIs(is_request(request), True, request)

    def test_other_lengths(self):
        for request in RIGHT:
            for wrong in (request[:-1], request + (0,), request + ("a",), request[:1], (request,), request + request):
                self.assertIs(is_request(wrong), False, wrong)
        self.assertIs(is_request(()), False)

    def test_other_kinds_in_each_place(self):
        for request in RIGHT:
            for number, part in enumerate(request):
                for other in (None, True, False, "a", 1, -1, (), (1,), [], {}, "0", b""):
                    wrong = request[:number] + (other,) + request[number + 1:]
                    fits = False
                    if number > 0 and isinstance(part, str):
                        fits = isinstance(other, str)
                    elif number > 0 and type(other) is int:
                        # The number of put may be any.
                        fits = other >= 0 or (request[0], number) == ("put", 5)
                    self.assertIs(is_request(wrong), fits, wrong)

    def test_other_words(self):
        for word in ("renamed", "Rename", "", "rename ", "undo", "function", "put_param", "each"):
            self.assertIs(is_request((word, 0, 2, "s")), False)
            self.assertIs(is_request((word, 0, 2)), False)

    def test_other_things(self):
        for thing in (None, True, 0, "rename", "", [], {}, ["rename", 0, 2, "s"], {"rename": 1}, [("rename", 0, 2, "s")], (("rename", 0, 2, "s"),), ([], 0, 2), ({}, 0, 2, "s"), ((), 0, 2, "s")):
            self.assertIs(is_request(thing), False, thing)


class Asked(Turnings):
    def test_each_one(self):
        for request, ask in RIGHT.items():
            told = asked(PROGRAM, request)
            self.assertEqual(told, ask(PROGRAM, *request[1:]))
            self.assertIs(type(told), tuple)
            self.assertTrue(told[0], request)
            behind = self.sound(PROGRAM, *told)
            whole = turned(PROGRAM, request)
            self.assertIs(type(whole), tuple)
            self.assertEqual(whole, (behind, told[1]))
            told[0].clear()
            self.assertEqual(turned(PROGRAM, request), whole)

    def test_no_edits(self):
        self.assertEqual(turned(PROGRAM, ("rename", 0, 2, "r")), (PROGRAM, ((), (), (0, 1, 2), (0,), ())))
        self.assertEqual(turned(PROGRAM, ("field", 0, 3, 0)), (PROGRAM, ((), (), (0, 1, 2), (0,), ())))

    def refused_so(self, ask, kind, *fields):
        with self.assertRaises(TurnError) as caught:
            ask()
        self.assertIs(type(caught.exception), kind)
        if fields:
            self.assertEqual((caught.exception.word, caught.exception.part, caught.exception.at), fields)

    def test_refused_as_what_it_asks(self):
        for ask in (asked, turned):
            for request in RIGHT:
                wrong = request[:1] + (1, 0) + request[3:]
                self.refused_so(lambda: ask(PROGRAM, wrong), NoTurn, "name", 1, 0)
            self.refused_so(lambda: ask(PROGRAM, ("rename", 0, 3, "b")), NoTurn, "used", 0, 4)
            self.refused_so(lambda: ask(PROGRAM, ("move", 0, 2, 2)), NoTurn, "part", 0, 2)
            self.refused_so(lambda: ask(PROGRAM, ("take", 0, 10)), NoTurn, "used", 0, 15)

    def test_no_request_goes_ahead_of_all(self):
        for ask in (asked, turned):
            for program in (PROGRAM, (), program_of("(open m () x)"), program_of(")")):
                for thing in (None, (), ("rename", 0, 2), ("rename", 0, True, "s"), ["rename", 0, 2, "s"], ("undo",), ("take", 0, -1), "take", 5, {}):
                    self.refused_so(lambda: ask(program, thing), NoRequest)

    def test_what_is_handed_in_stays(self):
        before = repr(PROGRAM)
        for request in RIGHT:
            turned(PROGRAM, request)
        self.assertEqual(repr(PROGRAM), before)
        self.assertEqual(edited(PROGRAM, []), PROGRAM)


if __name__ == "__main__":
    unittest.main()
