"""The words and shapes of forms and expressions [4]."""

from turnsame.words import is_name

RECORD = "record"
HEADS = ("function", "deep", "open")

MOST_FORMS = 40
MOST_BRACKETS = 60
MOST_PARAMS = 4
MOST_FIELDS = 4
NO_BOUND = -1

# How many expressions an op takes, at least and at most.
OPS = {
    "add": (2, 2), "sub": (2, 2), "mul": (2, 2), "div": (2, 2), "less": (2, 2), "same": (2, 2), "at": (2, 2),
    "not": (1, 1), "size": (1, 1), "row": (0, 8),
}

# How many NAMEs stand ahead, then how many expressions, at least and at most.
# A call is known by its NAME alone; the NAMEs of a fun have brackets of their own, and are not counted here.
SHAPES = {
    "let": (1, 2, 2), "var": (1, 2, 2), "each": (1, 2, 2), "set": (1, 1, 1),
    "do": (0, 1, NO_BOUND), "if": (0, 3, 3), "while": (0, 2, 2),
    "say": (0, 1, 1), "fault": (1, 0, 0),
    "new": (1, 0, NO_BOUND), "get": (2, 1, 1),
    "fun": (0, 1, 1), "apply": (0, 1, NO_BOUND), "call": (1, 0, NO_BOUND),
}


def is_head(word):
    """True where the word begins a form of a function."""
    return word in HEADS


def sort_of(word):
    """The sort of expression that the word behind a ( begins, or None where it begins none."""
    if is_name(word):
        return "call"
    return word if word in OPS or word in SHAPES else None


def shape_of(sort):
    """How many NAMEs an expression of this sort has ahead, and how many expressions at least and at most."""
    if sort in OPS:
        least, most = OPS[sort]
        return 0, least, most
    return SHAPES[sort]


def fits_count(many, least, most):
    """True where so many are neither too few nor too many."""
    return least <= many and (most == NO_BOUND or many <= most)
