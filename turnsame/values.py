"""Values and what is reckoned of them [6].

A number is an int, a row a tuple of ints; a record and a fun are a Made and a Fun.
"""

HALF = 32768
WHOLE = 65536


class Made:
    """A record: its number, and its fields' values."""

    def __init__(self, record, things):
        self.record = record
        self.things = things


class Fun:
    """A fun: the ids that it binds, its body, and the names around it with their values."""

    def __init__(self, ids, body, names):
        self.ids = ids
        self.body = body
        self.names = names


def worth(value):
    return value if isinstance(value, int) else 0


def look(value):
    """How a value looks outside."""
    return value if isinstance(value, (int, tuple)) else "thing"


def row_of(value):
    """The numbers of a row; of all else none."""
    return value if isinstance(value, tuple) else ()


def taken_in(number):
    return (number + HALF) % WHOLE - HALF


def of_worths(word, one, other):
    """What an op of two worths tells."""
    if word == "add":
        return taken_in(one + other)
    if word == "sub":
        return taken_in(one - other)
    if word == "mul":
        return taken_in(one * other)
    if word == "div":
        return taken_in(one // other)
    if word == "less":
        return 1 if one < other else 0
    return 1 if one == other else 0


def op_fault(word, things):
    """The fault of an op, or None."""
    if word == "div" and worth(things[1]) == 0:
        return "nought"
    if word == "at" and not 0 <= worth(things[1]) < len(row_of(things[0])):
        return "range"
    return None


def op_value(word, things):
    """What an op tells that has no fault."""
    if word == "row":
        return tuple([worth(thing) for thing in things])
    if word == "size":
        return len(row_of(things[0]))
    if word == "not":
        return 1 if worth(things[0]) == 0 else 0
    if word == "at":
        return things[0][worth(things[1])]
    return of_worths(word, worth(things[0]), worth(things[1]))
