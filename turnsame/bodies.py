"""Written expressions made into those of a core [7], [8], their names' meanings noted on the way."""

from turnsame.errors import NoProgram
from turnsame.forms import NO_BOUND, OPS
from turnsame.words import number_of


def read_things(walk, written, path, scope, wanted):
    """All expressions right within one: as many as are wanted, or any count where that is NO_BOUND."""
    told = []
    for number, thing in enumerate(written.things):
        if number == wanted:
            raise NoProgram(walk.part, thing.first)
        told.append(read_expression(walk, thing, path + (number,), scope))
    if len(told) < wanted:
        raise NoProgram(walk.part, written.last)
    return tuple(told)


def read_number(walk, written, path, scope):
    return "number", number_of(walk.word_at(written.first))


def read_name(walk, written, path, scope):
    return "name", walk.local_meant(written.first, scope, ("fixed", "var"))


def read_binder(walk, written, path, scope):
    """A let, var or each: its NAME is seen in its last expression alone."""
    binder = walk.bind(written.names[0], "var" if written.kind == "var" else "fixed")
    thing = read_expression(walk, written.things[0], path + (0,), scope)
    body = read_expression(walk, written.things[1], path + (1,), scope + (binder,))
    return written.kind, binder[1], thing, body


def read_set(walk, written, path, scope):
    number = walk.local_meant(written.names[0], scope, ("var",))
    return "set", number, read_expression(walk, written.things[0], path + (0,), scope)


def read_fun(walk, written, path, scope):
    outside = tuple([(name, number, "barred" if sort == "var" else sort) for name, number, sort in scope])
    binders = tuple([walk.bind(at, "fixed") for at in written.names])
    body = read_expression(walk, written.things[0], path + (0,), outside + binders)
    return "fun", tuple([number for name, number, sort in binders]), body


def read_fault(walk, written, path, scope):
    return "fault", walk.word_at(written.names[0])


def read_new(walk, written, path, scope):
    record = walk.record_meant(written.names[0])
    wanted = len(walk.tables.records[record])
    return "new", record, read_things(walk, written, path, scope, wanted)


def read_get(walk, written, path, scope):
    record = walk.record_meant(written.names[0])
    field = walk.field_meant(written.names[1], record)
    return "get", record, field, read_expression(walk, written.things[0], path + (0,), scope)


def read_call(walk, written, path, scope):
    function = walk.function_meant(written.names[0])
    head, wanted = walk.tables.functions[function]
    return "call", function, read_things(walk, written, path, scope, wanted)


def read_do(walk, written, path, scope):
    return "do", read_things(walk, written, path, scope, NO_BOUND)


def read_apply(walk, written, path, scope):
    things = read_things(walk, written, path, scope, NO_BOUND)
    return "apply", things[0], things[1:]


def read_op(walk, written, path, scope):
    return "op", written.kind, read_things(walk, written, path, scope, NO_BOUND)


def read_plain(walk, written, path, scope):
    """An if, while or say: nothing but its expressions."""
    return (written.kind,) + read_things(walk, written, path, scope, NO_BOUND)


READERS = {
    "number": read_number,
    "name": read_name,
    "let": read_binder,
    "var": read_binder,
    "each": read_binder,
    "set": read_set,
    "fun": read_fun,
    "fault": read_fault,
    "new": read_new,
    "get": read_get,
    "call": read_call,
    "do": read_do,
    "apply": read_apply,
    "if": read_plain,
    "while": read_plain,
    "say": read_plain,
}


def read_expression(walk, written, path, scope):
    """The core's expression that a written one makes."""
    walk.note_expression(written, path, scope)
    reader = read_op if written.kind in OPS else READERS[written.kind]
    return reader(walk, written, path, scope)
