"""Two hands that turn one program: they meet in one program, or clash [78] to [81]."""

from turnsame.edits import place_through
from turnsame.errors import Clash, NoTurn
from turnsame.turnings import Turn


def gone_by(edits, request):
    """The request as it is behind the edits, or None where they took its place."""
    at = place_through(edits, request[1], request[2])
    return None if at is None else request[:2] + (at,) + request[3:]


def turns_of(program, requests):
    """The turnings that a row of requests asks for, each one of the program behind the one ahead."""
    turns = []
    for request in requests:
        turn = Turn(program, request)
        program = turn.behind
        turns.append(turn)
    return turns


def gone_turn(turn, other):
    """The turning asked of the program behind another one of the same program, or None where none comes of it."""
    request = gone_by(other.edits, turn.request)
    if request is None:
        return None
    try:
        return Turn(other.behind, request)
    except NoTurn:
        return None


def closed(one, other):
    """Two turnings of one program, each behind the other one; None where they do not meet in one program."""
    one_behind, other_behind = gone_turn(one, other), gone_turn(other, one)
    if one_behind is None or other_behind is None or one_behind.behind != other_behind.behind:
        return None
    return one_behind, other_behind


def place_of(request):
    return request[1:3]


def turns_behind(one, others, request, requests):
    """The other hand's turnings behind the one's turning, which its request asked for, as theirs asked for them."""
    told = []
    for number, other in enumerate(others):
        square = closed(one, other)
        if square is None:
            raise Clash(place_of(request), place_of(requests[number]))
        one, other_behind = square
        told.append(other_behind)
    return told


def together(program, one, other):
    """The program in which both hands' turnings meet, and the papers of the way to it."""
    ones = turns_of(program, one)
    others = turns_of(program, other)
    for number, turn in enumerate(ones):
        others = turns_behind(turn, others, one[number], other)
    way = ones + others
    return way[-1].behind if way else program, [turn.paper for turn in way]
