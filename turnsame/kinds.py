"""Which kind a plain thing is of [2]."""


def is_whole(thing):
    """True of whole numbers: truths are none, though Python counts them among its ints."""
    return isinstance(thing, int) and not isinstance(thing, bool)


def is_whole_within(thing, least, most):
    return is_whole(thing) and least <= thing <= most


def is_tuple_of(thing, many):
    return isinstance(thing, tuple) and len(thing) == many
