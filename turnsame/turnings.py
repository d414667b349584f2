"""What can be asked of a program, and the program that comes of it [75], [76]."""

from turnsame.drawing import drawn
from turnsame.edits import edited
from turnsame.errors import NoRequest
from turnsame.fields import moved_field
from turnsame.inplace import put_in_place
from turnsame.kinds import is_whole
from turnsame.moving import moved
from turnsame.naming import named, spread
from turnsame.params import put_param, take_param
from turnsame.renaming import renamed
from turnsame.steps import is_count
from turnsame.turning import flipped, parted

# part: a part's number; count: a token's number or a k; text: a name, any text; whole: any whole number.
REQUESTS = {
    "rename": ("part", "count", "text"),
    "move": ("part", "count", "part"),
    "put": ("part", "count", "count", "text", "whole"),
    "take": ("part", "count"),
    "field": ("part", "count", "count"),
    "draw": ("part", "count", "text"),
    "inplace": ("part", "count"),
    "flip": ("part", "count"),
    "part": ("part", "count", "count"),
    "name": ("part", "count", "text"),
    "spread": ("part", "count"),
}


def fits_request(slot, thing):
    if slot == "text":
        return isinstance(thing, str)
    return is_whole(thing) if slot == "whole" else is_count(thing)


def is_request(thing):
    """True where the thing, any plain one, is a request."""
    if not isinstance(thing, tuple) or not thing or not isinstance(thing[0], str) or thing[0] not in REQUESTS:
        return False
    slots = REQUESTS[thing[0]]
    if len(thing) != 1 + len(slots):
        return False
    return all([fits_request(slot, part) for slot, part in zip(slots, thing[1:])])


def ask_rename(program, request):
    return renamed(program, request[1], request[2], request[3])


def ask_move(program, request):
    return moved(program, request[1], request[2], request[3])


def ask_put(program, request):
    return put_param(program, request[1], request[2], request[3], request[4], request[5])


def ask_take(program, request):
    return take_param(program, request[1], request[2])


def ask_field(program, request):
    return moved_field(program, request[1], request[2], request[3])


def ask_draw(program, request):
    return drawn(program, request[1], request[2], request[3])


def ask_inplace(program, request):
    return put_in_place(program, request[1], request[2])


def ask_flip(program, request):
    return flipped(program, request[1], request[2])


def ask_part(program, request):
    return parted(program, request[1], request[2], request[3])


def ask_name(program, request):
    return named(program, request[1], request[2], request[3])


def ask_spread(program, request):
    return spread(program, request[1], request[2])


ASKERS = {
    "rename": ask_rename,
    "move": ask_move,
    "put": ask_put,
    "take": ask_take,
    "field": ask_field,
    "draw": ask_draw,
    "inplace": ask_inplace,
    "flip": ask_flip,
    "part": ask_part,
    "name": ask_name,
    "spread": ask_spread,
}


def asked(program, request):
    """The turning that the request asks for: its edits and its paper."""
    if not is_request(request):
        raise NoRequest("no request")
    asker = ASKERS[request[0]]
    return asker(program, request)


class Turn:
    """A turning done: its request, the programs ahead of and behind it, its edits and its paper."""

    def __init__(self, ahead, request):
        self.request = request
        self.ahead = ahead
        self.edits, self.paper = asked(ahead, request)
        self.behind = edited(ahead, self.edits)


def turned(program, request):
    """The program turned by the request, and the turning's paper."""
    turn = Turn(program, request)
    return turn.behind, turn.paper
