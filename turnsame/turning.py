"""Ifs turned about, and eachs parted [64], [65]."""

from turnsame.asking import Asked
from turnsame.fitting import ahead_of, behind, in_place
from turnsame.places import outer_sets, refuse_least


def flipped_test(asked):
    """The signs of the test that an if has behind its turning."""
    test = asked.path + (0,)
    return asked.signs(test + (0,)) if has_not(asked.e) else f"(not {asked.signs(test)})"


def has_not(e):
    """True where the test of an if is a not."""
    return e[1][:2] == ("op", "not")


def flipped(program, part, at):
    """The turning that lets the two ways of an if change places."""
    asked = Asked(program, part, at)
    if not asked.is_word("if"):
        asked.refuse("name")
    test, one, other = [asked.path + (number,) for number in range(3)]
    wishes = [
        in_place(asked.rows, asked.span(test), flipped_test(asked)),
        in_place(asked.rows, asked.span(one), asked.signs(other)),
        in_place(asked.rows, asked.span(other), asked.signs(one)),
    ]
    steps = (("flip", asked.function, asked.path),)
    return asked.turning(wishes, steps, ()) if has_not(asked.e) else asked.turning(wishes, (), steps)


def can_ask_part(asked, k):
    """True where an each is there whose body is a do with a thing number k, from 1 on."""
    return asked.is_word("each") and asked.e[3][0] == "do" and 1 <= k < len(asked.e[3][1])


def met_vars(ground, things):
    """The vars that the things read or set, as a dict's keys."""
    return {number: True for thing in things for number in ground.read_in(thing) + ground.set_in(thing)}


def refuse_sets(asked, ground, k):
    """Refuses where a thing of the do sets a var that the row, or a thing on the other side of k, meets."""
    word, x, over, body = asked.e
    ones, others = met_vars(ground, body[1][:k]), met_vars(ground, body[1][k:])
    read = ground.read_in(over)
    begin = asked.span(asked.path + (1, k))[:2]
    laid = []
    for place, number in outer_sets(asked.read, asked.span(asked.path + (1,))):
        if number in read or number in (others if place < begin else ones):
            laid.append(place)
    refuse_least("set", laid)


def refuse_part(asked, k):
    ground = asked.ground()
    refuse_sets(asked, ground, k)
    word, x, over, body = asked.e
    if not ground.idle(over):
        refuse_least("deed", [asked.span(asked.path + (0,))[:2]])
    loud = [number for number, thing in enumerate(body[1]) if not ground.quiet(thing)]
    if [number for number in loud if number < k]:
        # The do's number is 1, its things are its children.
        refuse_least("deed", [asked.span(asked.path + (1, number))[:2] for number in loud if number >= k])


def parted(program, part, at, k):
    """The turning that parts an each ahead of thing number k of the do that is its body."""
    asked = Asked(program, part, at)
    if not can_ask_part(asked, k):
        asked.refuse("name")
    refuse_part(asked, k)
    x = asked.rows[part][at + 2][1]
    over = asked.signs(asked.path + (0,))
    wishes = [
        ahead_of(part, at, " (do"),
        ahead_of(part, asked.span(asked.path + (1, k))[1], f")) (each {x} {over} (do"),
        ahead_of(part, behind(asked.span(asked.path)), ")"),
    ]
    return asked.turning(wishes, (("part", asked.function, asked.path, k),), ())
