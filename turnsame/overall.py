"""The rules for a function or a record as a whole [35]: each tells a core, or None where it is not right."""

from turnsame.calm import all_grounds
from turnsame.cores import rewritten, turned_ids, walked
from turnsame.laying import is_row_of_all, turned_row, with_numbers


def without(row, number):
    return row[:number] + row[number + 1:]


def all_numbers(row):
    return list(range(len(row)))


def left_numbers(row, gone):
    """The new number of each in the row, where the one that is gone makes all greater ones one less."""
    return [number - 1 if number > gone else number for number in all_numbers(row)]


def is_named(core, word, number):
    """True where some expression of this word tells this number."""
    for head, count, body in core[0]:
        if any([node[0] == word and node[1] == number for node in walked(body)]):
            return True
    return False


def lose(core, step):
    functions, records, opens = core
    gone = step[1]
    if gone >= len(functions) or functions[gone][0] == "open" or is_named(core, "call", gone):
        return None
    numbers = left_numbers(functions, gone)
    told = [with_numbers(function, numbers, all_numbers(records)) for function in without(functions, gone)]
    return tuple(told), records, tuple([(name, numbers[number]) for name, number in opens])


def lost(core, step):
    functions, records, opens = core
    gone = step[1]
    if gone >= len(records) or is_named(core, "new", gone) or is_named(core, "get", gone):
        return None
    numbers = left_numbers(records, gone)
    told = [with_numbers(function, all_numbers(functions), numbers) for function in functions]
    return tuple(told), without(records, gone), opens


def can_drop_things(core, called, k):
    """True where thing k of each call of the function is idle."""
    for ground, (head, count, body) in zip(all_grounds(core), core[0]):
        for node in walked(body):
            if node[0] == "call" and node[1] == called and not ground.idle(node[2][k]):
                return False
    return True


def without_thing(e, what):
    called, k = what
    return ("call", called, without(e[2], k)) if e[0] == "call" and e[1] == called else e


def without_param(function, k):
    """The function without its param k, which stands nowhere."""
    head, count, body = function
    return head, count - 1, turned_ids(body, {number: number - 1 for number in range(k + 1, count)})


def param(core, step):
    functions, records, opens = core
    called, k = step[1], step[2]
    if called >= len(functions) or functions[called][0] == "open" or k >= functions[called][1]:
        return None
    if ("name", k) in walked(functions[called][2]) or not can_drop_things(core, called, k):
        return None
    told = [(head, count, rewritten(body, without_thing, (called, k))) for head, count, body in functions]
    told[called] = without_param(told[called], k)
    return tuple(told), records, opens


def can_reorder(core, record):
    """True where in each new of the record at most one thing is not calm."""
    for ground, (head, count, body) in zip(all_grounds(core), core[0]):
        for node in walked(body):
            if node[0] == "new" and node[1] == record:
                if len([thing for thing in node[2] if not ground.calm(thing)]) > 1:
                    return False
    return True


def reordered(e, what):
    """The expression, where it is of the record, with its things or its field in the new order."""
    record, order = what
    if e[0] == "new" and e[1] == record:
        return "new", record, tuple([e[2][number] for number in order])
    if e[0] == "get" and e[1] == record:
        return "get", record, turned_row(order)[e[2]], e[3]
    return e


def fields(core, step):
    functions, records, opens = core
    record, order = step[1], step[2]
    if record >= len(records) or not is_row_of_all(order, records[record]) or not can_reorder(core, record):
        return None
    told = [(head, count, rewritten(body, reordered, (record, order))) for head, count, body in functions]
    return tuple(told), records, opens


OVERALL = {
    "lose": lose,
    "param": param,
    "fields": fields,
    "lost": lost,
}
