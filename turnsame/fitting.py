"""Edits made of wishes, so that no two words run into one [57], [58], [60].

A wish is a tuple (part, at, many, tokens): so many tokens from at on give way to these, each with its gap.
"""

from turnsame.edits import meets, pieces_of
from turnsame.tokens import text_of, tokens_of


def token_rows(program):
    """A list of tokens for each part."""
    return [tokens_of(text)[0] for name, text in program]


def signs_of(rows, span):
    """The signs of the span's tokens, from the first word to the last one."""
    part, first, count = span
    tokens = rows[part][first:first + count]
    return tokens[0][1] + text_of(tokens[1:], "")


def in_place(rows, span, text):
    """The wish that the text takes the place of the span's tokens, with the gap of the first one."""
    part, first, count = span
    return part, first, count, pieces_of(rows[part][first][0] + text)


def taken(span):
    """The wish that the span's tokens go."""
    part, first, count = span
    return part, first, count, []


def ahead_of(part, at, text):
    """The wish that the text, its gap too, is laid ahead of a token."""
    return part, at, 0, pieces_of(text)


def behind(span):
    """The number of the token behind a span."""
    part, first, count = span
    return first + count


def lay_behind(told, tokens):
    """Lays tokens behind those told, with a blank ahead of each one that would run into the word ahead of it."""
    for gap, word in tokens:
        if told and meets(told[-1], (gap, word)):
            gap = " "
        told.append((gap, word))


def fitted_edit(row, told, wish, following):
    """The edit that a wish makes, its tokens laid behind those told; following is where the next one begins."""
    part, at, many, tokens = wish
    first = len(told)
    lay_behind(told, tokens)
    end = at + many
    if told and end < following and meets(told[-1], row[end]):
        lay_behind(told, [row[end]])
        many += 1
    return part, at, many, text_of(told[first:], "")


def fitted_in_part(row, wishes):
    """The edits that the wishes of a part make, which rise; its tokens are the row's."""
    edits = []
    told = []
    kept = 0
    begins = [wish[1] for wish in wishes] + [len(row)]
    for number, wish in enumerate(wishes):
        told.extend(row[kept:wish[1]])
        edit = fitted_edit(row, told, wish, begins[number + 1])
        kept = edit[1] + edit[2]
        edits.append(edit)
    return edits


def fitted_edits(rows, wishes):
    """The edits, in their order, that the wishes make."""
    edits = []
    for number, row in enumerate(rows):
        edits.extend(fitted_in_part(row, sorted([wish for wish in wishes if wish[0] == number])))
    return edits
