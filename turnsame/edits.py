"""Edits: pieces of a program's parts that give place to others [50] to [52]."""

from turnsame.errors import NoEdit
from turnsame.tokens import text_of, tokens_of


def pieces_of(text):
    """The pieces that a text writes: its tokens."""
    tokens, tail = tokens_of(text)
    return tokens


def ends_with_token(text):
    tokens, tail = tokens_of(text)
    return tail == ""


def rises(ahead, edit):
    """True where the edit begins behind the one ahead of it, or where that one ends."""
    if edit[0] != ahead[0]:
        return edit[0] > ahead[0]
    return edit[1] >= ahead[1] + ahead[2]


def has_tokens(rows, edit):
    """True where there are the part and the tokens of the edit."""
    part, at, many, text = edit
    return 0 <= part < len(rows) and many >= 0 and 0 <= at <= len(rows[part]) - many


def refuse_wrong(rows, edits):
    """Refuses the first edit that is not as told by itself, or by the one ahead of it."""
    for number, edit in enumerate(edits):
        if not has_tokens(rows, edit) or not ends_with_token(edit[3]):
            raise NoEdit(number)
        if number > 0 and not rises(edits[number - 1], edit):
            raise NoEdit(number)


def places_behind(edits):
    """For each edit, where its pieces stand when all are done: the number of the first one, and how many they are."""
    places = []
    more = {}
    for part, at, many, text in edits:
        laid = len(pieces_of(text))
        places.append((at + more.get(part, 0), laid))
        more[part] = more.get(part, 0) + laid - many
    return places


def laid_rows(rows, edits):
    """The rows of tokens with the edits done, which are as told."""
    told = [list(row) for row in rows]
    # From the last edit on, so that the numbers of those ahead stay.
    for part, at, many, text in edits[::-1]:
        told[part][at:at + many] = pieces_of(text)
    return told


def meets(ahead, token):
    """True where the token, for want of a gap, would run into the one ahead of it."""
    gap, word = token
    return gap == "" and word not in ("(", ")") and ahead[1] not in ("(", ")")


def runs_in(row, at):
    """True where token at would run into the word ahead of it."""
    return 0 < at < len(row) and meets(row[at - 1], row[at])


def refuse_run_in(rows, edits):
    """Refuses the first edit, of those done in the rows, at an end of which two words run into one."""
    for number, (first, many) in enumerate(places_behind(edits)):
        row = rows[edits[number][0]]
        if runs_in(row, first) or runs_in(row, first + many):
            raise NoEdit(number)


def edited_rows(rows, edits):
    """The rows of tokens with the edits done, or a refusal."""
    refuse_wrong(rows, edits)
    told = laid_rows(rows, edits)
    refuse_run_in(told, edits)
    return told


def edited(program, edits):
    """The program edited."""
    rows = edited_rows([pieces_of(text) for name, text in program], edits)
    tails = [tokens_of(text)[1] for name, text in program]
    return tuple([(program[part][0], text_of(row, tails[part])) for part, row in enumerate(rows)])


def back_edits(program, edits):
    """The edits that make the program again of the edited one."""
    rows = [pieces_of(text) for name, text in program]
    edited_rows(rows, edits)
    told = []
    for (part, at, many, text), (first, laid) in zip(edits, places_behind(edits)):
        told.append((part, first, laid, text_of(rows[part][at:at + many], "")))
    return told


def place_through(edits, part, at):
    """The number of a part's token behind edits, None where one took it."""
    place = at
    for edited_part, first, many, text in edits:
        if edited_part == part and first <= at:
            if at < first + many:
                return None
            place += len(pieces_of(text)) - many
    return place
