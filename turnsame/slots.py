"""What stands behind the word of each expression of a core [7]."""

from turnsame.forms import HEADS, MOST_FIELDS, MOST_FORMS, MOST_PARAMS, OPS
from turnsame.kinds import is_tuple_of, is_whole, is_whole_within
from turnsame.words import GREATEST_NUMBER, LEAST_NUMBER, is_name

# one: an expression; many: a tuple of expressions; bound, bounds: an id, a tuple of ids that are bound;
# meant: an id that is bound around; place: the number of a function, record or field.
SLOTS = {
    "number": ("number",),
    "name": ("meant",),
    "let": ("bound", "one", "one"),
    "var": ("bound", "one", "one"),
    "set": ("meant", "one"),
    "do": ("many",),
    "if": ("one", "one", "one"),
    "while": ("one", "one"),
    "each": ("bound", "one", "one"),
    "say": ("one",),
    "fault": ("word",),
    "op": ("op", "many"),
    "new": ("place", "many"),
    "get": ("place", "place", "one"),
    "fun": ("bounds", "one"),
    "apply": ("one", "many"),
    "call": ("place", "many"),
}


def fits_slot(slot, thing):
    """True where the thing is of the slot's kind; an expression is looked at on its own."""
    if slot == "one":
        return True
    if slot == "many":
        return isinstance(thing, tuple)
    if slot == "bounds":
        return isinstance(thing, tuple) and len(thing) <= MOST_PARAMS and all([is_whole(part) for part in thing])
    if slot == "number":
        return is_whole_within(thing, LEAST_NUMBER, GREATEST_NUMBER)
    if slot == "word":
        return isinstance(thing, str) and is_name(thing)
    if slot == "op":
        return isinstance(thing, str) and thing in OPS
    return is_whole(thing)


def is_expression(thing):
    """True where the thing, but for the expressions within it, is of the kinds of an expression."""
    if not isinstance(thing, tuple) or not thing or not isinstance(thing[0], str) or thing[0] not in SLOTS:
        return False
    slots = SLOTS[thing[0]]
    if len(thing) != 1 + len(slots):
        return False
    return all([fits_slot(slot, part) for slot, part in zip(slots, thing[1:])])


def is_function(thing):
    """True where the thing, but for its body, is of the kinds of a function."""
    if not is_tuple_of(thing, 3) or not isinstance(thing[0], str) or thing[0] not in HEADS:
        return False
    return is_whole_within(thing[1], 0, MOST_PARAMS)


def is_open(thing):
    if not is_tuple_of(thing, 2) or not isinstance(thing[0], str):
        return False
    return is_name(thing[0]) and is_whole(thing[1])


def are_opens(opens, functions):
    """True where these are the opens of the functions: sorted, their names unlike, one for each open function."""
    if not all([is_open(pair) for pair in opens]):
        return False
    names = [name for name, number in opens]
    if names != sorted(set(names)):
        return False
    numbers = [number for number, function in enumerate(functions) if function[0] == "open"]
    return sorted([number for name, number in opens]) == numbers


def is_frame(thing):
    """True where the thing, but for the functions' bodies, is of the kinds and counts of a core."""
    if not is_tuple_of(thing, 3) or not all([isinstance(part, tuple) for part in thing]):
        return False
    functions, records, opens = thing
    if len(functions) + len(records) > MOST_FORMS:
        return False
    if not all([is_function(function) for function in functions]):
        return False
    if not all([is_whole_within(count, 1, MOST_FIELDS) for count in records]):
        return False
    return are_opens(opens, functions)
