"""What a step is [34]: its rule's word, and what stands behind it."""

from turnsame.kinds import is_whole

# number: a function, a record or a k; numbers: a path or an order.
STEPS = {
    "unfold": ("number", "numbers"),
    "spread": ("number", "numbers"),
    "now": ("number", "numbers"),
    "flip": ("number", "numbers"),
    "flat": ("number", "numbers"),
    "drop": ("number", "numbers", "number"),
    "swap": ("number", "numbers", "number"),
    "part": ("number", "numbers", "number"),
    "lose": ("number",),
    "param": ("number", "number"),
    "fields": ("number", "numbers"),
    "lost": ("number",),
}


def is_count(thing):
    """True where the thing is a whole number from 0 on."""
    return is_whole(thing) and thing >= 0


def fits_step(slot, thing):
    if slot == "number":
        return is_count(thing)
    return isinstance(thing, tuple) and all([is_count(part) for part in thing])


def is_step(thing):
    """True where the thing, any plain one, has a step's form; whether it is right for a core is no matter here."""
    if not isinstance(thing, tuple) or not thing or not isinstance(thing[0], str) or thing[0] not in STEPS:
        return False
    slots = STEPS[thing[0]]
    if len(thing) != 1 + len(slots):
        return False
    return all([fits_step(slot, part) for slot, part in zip(slots, thing[1:])])
