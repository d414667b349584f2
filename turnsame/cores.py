"""Cores: trees without names, gaps and parts [7], [8], [19] to [22].

Expressions may stand hundreds within one another, so all goes by lists of what waits, not by calls within calls.
"""

from turnsame.forms import OPS, fits_count
from turnsame.rings import ring_number
from turnsame.slots import SLOTS, is_expression, is_frame


def children_of(e):
    """The expressions right within an expression, in their order."""
    children = ()
    for slot, part in zip(SLOTS[e[0]], e[1:]):
        if slot == "one":
            children += (part,)
        elif slot == "many":
            children += tuple(part)
    return children


def with_children(e, children):
    """The expression with others, as many, in the place of its children."""
    told = [e[0]]
    at = 0
    for slot, part in zip(SLOTS[e[0]], e[1:]):
        if slot == "one":
            told.append(children[at])
            at += 1
        elif slot == "many":
            told.append(tuple(children[at:at + len(part)]))
            at += len(part)
        else:
            told.append(part)
    return tuple(told)


def at_path(e, path):
    """The expression that the path leads to, or None."""
    for number in path:
        children = children_of(e)
        if not 0 <= number < len(children):
            return None
        e = children[number]
    return e


def put_at(e, path, other):
    """The expression with another one where the path leads."""
    around = []
    for number in path:
        around.append((e, number))
        e = children_of(e)[number]
    for outer, number in around[::-1]:
        children = list(children_of(outer))
        children[number] = other
        other = with_children(outer, children)
    return other


def bound_by(e):
    """The ids that the expression itself binds; they are seen in its last child."""
    if e[0] in ("let", "var", "each"):
        return (e[1],)
    return tuple(e[1]) if e[0] == "fun" else ()


def meant_by(e):
    """The id that the expression itself means, or None."""
    return e[1] if e[0] in ("name", "set") else None


def with_ids(e, bound, meant):
    """The expression with other ids: those that it binds given in order, the one that it means turned by a dict."""
    told = [e[0]]
    for slot, part in zip(SLOTS[e[0]], e[1:]):
        if slot == "bound":
            told.append(bound[0])
        elif slot == "bounds":
            told.append(bound)
        elif slot == "meant":
            told.append(meant.get(part, part))
        else:
            told.append(part)
    return tuple(told)


def walked(e):
    """An expression and all within it: each one ahead of what is within it, children from left to right."""
    met = []
    waiting = [e]
    while waiting:
        node = waiting.pop()
        met.append(node)
        waiting.extend(children_of(node)[::-1])
    return met


def taken_off(built, many):
    """Takes as many expressions off the end of a list: they are told, the last one first."""
    told = built[len(built) - many:]
    del built[len(built) - many:]
    return told[::-1]


def rebuilt(met):
    """The expression that a walk met, put together of what stands in the walk now, whatever children it told."""
    # From the walk's end on, an expression's children lie on top, the first one uppermost.
    built = []
    for node in met[::-1]:
        built.append(with_children(node, taken_off(built, len(children_of(node)))))
    return built[0]


def rewritten(e, change, what):
    """The expression with each one in it, the inner ones first, told anew as change(expression, what) tells it."""
    built = []
    for node in walked(e)[::-1]:
        told = with_children(node, taken_off(built, len(children_of(node))))
        built.append(change(told, what))
    return built[0]


def scoped_children(e, outer, inner):
    """Pairs of each child, from left to right, and what is seen there: inner in the last one, outer in the others."""
    children = children_of(e)
    last = len(children) - 1
    return [(child, inner if number == last else outer) for number, child in enumerate(children)]


def with_entries(table, ids, told):
    """The dict, which stays as it is, with what is told for each of the ids."""
    if not ids:
        return table
    entries = dict(table)
    for number, thing in zip(ids, told):
        entries[number] = thing
    return entries


def free_ids(e):
    """The ids that are meant in the expression and not bound around within it: sorted, each once."""
    free = []
    waiting = [(e, {})]
    while waiting:
        node, bound = waiting.pop()
        meant = meant_by(node)
        if meant is not None and meant not in bound:
            free.append(meant)
        ids = bound_by(node)
        waiting.extend(scoped_children(node, bound, with_entries(bound, ids, ids)))
    return tuple(sorted(set(free)))


def turned_ids(e, ids):
    """The expression with all ids, bound ones too, turned by a dict; others stay."""
    turned = []
    for node in walked(e):
        bound = tuple([ids.get(number, number) for number in bound_by(node)])
        turned.append(with_ids(node, bound, ids))
    return rebuilt(turned)


def canon(function):
    """The function with canonical ids."""
    head, count, body = function
    fresh = count
    met = []
    waiting = [(body, {})]
    while waiting:
        node, seen = waiting.pop()
        ids = bound_by(node)
        turned = tuple(range(fresh, fresh + len(ids)))
        fresh += len(ids)
        met.append(with_ids(node, turned, seen))
        waiting.extend(scoped_children(node, seen, with_entries(seen, ids, turned))[::-1])
    return head, count, rebuilt(met)


def has_place(row, number):
    return 0 <= number < len(row)


def can_be_called(function, many):
    """True where the function can be called from within, with so many things."""
    return function[0] != "open" and function[1] == many


def is_right_alone(e, seen, functions, records):
    """True where what the expression itself means is there, and it has as many things as it wants."""
    word = e[0]
    if word == "name":
        return e[1] in seen
    if word == "set":
        return seen.get(e[1]) == "var"
    if word == "do":
        return len(e[1]) > 0
    if word == "op":
        least, most = OPS[e[1]]
        return fits_count(len(e[2]), least, most)
    if word == "new":
        return has_place(records, e[1]) and len(e[2]) == records[e[1]]
    if word == "get":
        return has_place(records, e[1]) and 0 <= e[2] < records[e[1]]
    if word == "call":
        return has_place(functions, e[1]) and can_be_called(functions[e[1]], len(e[2]))
    return True


def seen_within(e, seen):
    """What is seen in the expression's last child: a dict of ids and the words of their binders."""
    ids = bound_by(e)
    if e[0] == "fun":
        # Within a fun no var from outside is meant.
        seen = {number: word for number, word in seen.items() if word != "var"}
    return with_entries(seen, ids, [e[0]] * len(ids))


def is_right_body(function, functions, records):
    """True where the function's body is right: its kinds, what it means, and its ids canonical."""
    head, count, body = function
    fresh = count
    waiting = [(body, {number: "param" for number in range(count)})]
    while waiting:
        node, seen = waiting.pop()
        if not is_expression(node) or not is_right_alone(node, seen, functions, records):
            return False
        ids = bound_by(node)
        if ids != tuple(range(fresh, fresh + len(ids))):
            return False
        fresh += len(ids)
        waiting.extend(scoped_children(node, seen, seen_within(node, seen))[::-1])
    return True


def plain_calls(functions):
    """The calls of a "function" by a "function", those within funs too: a list of (caller, callee)."""
    calls = []
    for caller, (head, count, body) in enumerate(functions):
        if head == "function":
            calls.extend([(caller, node[1]) for node in walked(body) if node[0] == "call"])
    return [(caller, callee) for caller, callee in calls if functions[callee][0] == "function"]


def right_core(thing):
    """True where the thing, any plain one, is the core of some program, but for bounds."""
    if not is_frame(thing):
        return False
    functions, records, opens = thing
    for function in functions:
        if not is_right_body(function, functions, records):
            return False
    return ring_number(plain_calls(functions)) is None
