"""Fields moved among those of their record [58]."""

from turnsame.bounds import bounded_turning
from turnsame.calm import all_grounds
from turnsame.errors import NoTurn
from turnsame.fitting import behind, fitted_edits, taken, token_rows
from turnsame.papers import plain_paper
from turnsame.places import nodes_of, refuse_least
from turnsame.reading import Read

# The tokens of a record's form ahead of its first field.
AHEAD_OF_FIELDS = 3


def field_spans(read, record):
    """The spans of a record's fields in its form."""
    part, first, count = read.form_of(("record", record))
    return [(part, first + AHEAD_OF_FIELDS + number, 1) for number in range(read.core()[1][record])]


def is_field_at(read, thing, place):
    """True where the thing is a record's field, told at the place in its form."""
    return thing is not None and thing[0] == "field" and field_spans(read, thing[1])[thing[2]][:2] == place


def refuse_deed(read, record):
    """Refuses where a new has more than one thing that is not calm, at the second one of the first such new."""
    grounds = all_grounds(read.core())
    for function, path, new in nodes_of(read, "new", record):
        restless = [number for number, thing in enumerate(new[2]) if not grounds[function].calm(thing)]
        if len(restless) > 1:
            refuse_least("deed", [read.span_of(function, path + (restless[1],))[:2]])


def all_rows(read, record):
    """The rows of spans that are laid anew, outer ones ahead of inner ones: the fields, and the things of each new."""
    rows = [field_spans(read, record)]
    for function, path, new in nodes_of(read, "new", record):
        rows.append([read.span_of(function, path + (number,)) for number in range(len(new[2]))])
    return rows


def place_then(spans, number, k):
    """The token ahead of which the thing of this number is laid to become number k."""
    return spans[k][1] if k < number else behind(spans[k])


def moved_block(tokens, first, end, at):
    """The tokens with those from first to ahead of end laid ahead of the one that is number at now."""
    block = tokens[first:end]
    if at < first:
        return tokens[:at] + block + tokens[at:first] + tokens[end:]
    return tokens[:first] + tokens[end:at] + block + tokens[at:]


def is_inside(spans, wish):
    """True where the wish begins within one of the spans, behind its first token."""
    return any([part == wish[0] and first < wish[1] < first + count for part, first, count in spans])


def move_wishes(rows, all_spans, number, k):
    """Wishes that make the thing of this number, in each row of spans, number k."""
    told = [list(row) for row in rows]
    wishes = []
    # From the inner ones on: what is moved by an outer one is told as the inner ones left it.
    for spans in all_spans[::-1]:
        part, first, count = spans[number]
        at = place_then(spans, number, k)
        wishes.append(taken(spans[number]))
        wishes.append((part, at, 0, told[part][first:first + count]))
        told[part] = moved_block(told[part], first, first + count, at)
    moved = [spans[number] for spans in all_spans]
    return [wish for wish in wishes if not is_inside(moved, wish)]


def order_then(many, number, k):
    """The former numbers of so many fields in their new order, where one becomes number k."""
    order = [other for other in range(many) if other != number]
    order.insert(k, number)
    return tuple(order)


def moved_field(program, part, at, k):
    """The turning that makes the field, told at the place in its record's form, the record's field number k."""
    read = Read(program)
    thing = read.thing_at(part, at)
    if not is_field_at(read, thing, (part, at)) or not 0 <= k < read.core()[1][thing[1]]:
        raise NoTurn("name", part, at)
    word, record, number = thing
    if number == k:
        return [], plain_paper(read.core(), (), (), ())
    refuse_deed(read, record)
    edits = fitted_edits(token_rows(program), move_wishes(token_rows(program), all_rows(read, record), number, k))
    order = order_then(read.core()[1][record], number, k)
    return bounded_turning(program, part, at, edits, plain_paper(read.core(), (("fields", record, order),), (), ()))
