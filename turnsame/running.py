"""Runs of cores [6], [30].

What is still to be done waits in a list, so that no run rests on how deep Python's own calls may go.
"""

from turnsame.cores import children_of
from turnsame.errors import NoOpen
from turnsame.values import Fun, Made, look, op_fault, op_value, row_of, worth


class Machine:
    """A run: what waits, the values that no expression has taken yet, deeds, ticks left, and how it ended, or None.

    Names are a chain (id, box, names around), None where there are none; a box is a list of the one value.
    What waits is a tuple (task, expression, names, count): how many values the task takes when it comes to it.
    """

    def __init__(self, functions, ticks):
        self.functions = functions
        self.ticks = ticks
        self.waiting = []
        self.told = []
        self.deeds = []
        self.end = None

    def wait(self, task, e, names, count):
        self.waiting.append((task, e, names, count))

    def begin(self, e, names):
        self.wait("begin", e, names, 0)

    def tell(self, value):
        self.told.append(value)

    def take(self, count):
        """The last values told, so many, in their order."""
        first = len(self.told) - count
        taken = self.told[first:]
        del self.told[first:]
        return taken

    def fault(self, word):
        self.end = ("fault", word)

    def tick(self):
        """True where a tick was left, which is taken; else the run is dry."""
        if self.ticks == 0:
            self.end = ("dry",)
            return False
        self.ticks -= 1
        return True


def bound_names(names, ids, values):
    """The names with these ids bound to these values."""
    for number, value in zip(ids, values):
        names = (number, [value], names)
    return names


def box_of(names, number):
    while names[0] != number:
        names = names[2]
    return names[1]


def finish_number(machine, e, names, values):
    machine.tell(e[1])


def finish_name(machine, e, names, values):
    box = box_of(names, e[1])
    machine.tell(box[0])


def finish_let(machine, e, names, values):
    machine.begin(e[3], bound_names(names, (e[1],), values))


def finish_set(machine, e, names, values):
    box = box_of(names, e[1])
    box[0] = values[0]
    machine.tell(values[0])


def finish_do(machine, e, names, values):
    machine.tell(values[-1])


def finish_if(machine, e, names, values):
    machine.begin(e[2] if worth(values[0]) != 0 else e[3], names)


def finish_while(machine, e, names, values):
    if worth(values[0]) == 0:
        machine.tell(0)
    elif machine.tick():
        machine.wait("again", e, names, 1)
        machine.begin(e[2], names)


def finish_each(machine, e, names, values):
    numbers = row_of(values[0])
    machine.wait("over", e, names, len(numbers))
    for number in numbers[::-1]:
        machine.begin(e[3], bound_names(names, (e[1],), (number,)))


def finish_say(machine, e, names, values):
    machine.deeds.append(look(values[0]))
    machine.tell(values[0])


def finish_fault(machine, e, names, values):
    machine.fault(e[1])


def finish_op(machine, e, names, values):
    fault = op_fault(e[1], values)
    if fault is None:
        machine.tell(op_value(e[1], values))
    else:
        machine.fault(fault)


def finish_new(machine, e, names, values):
    machine.tell(Made(e[1], values))


def finish_get(machine, e, names, values):
    made = values[0]
    if isinstance(made, Made) and made.record == e[1]:
        machine.tell(made.things[e[2]])
    else:
        machine.fault("field")


def finish_fun(machine, e, names, values):
    machine.tell(Fun(e[1], e[2], names))


def finish_apply(machine, e, names, values):
    fun = values[0]
    if not isinstance(fun, Fun) or len(fun.ids) != len(values) - 1:
        machine.fault("apply")
    elif machine.tick():
        machine.begin(fun.body, bound_names(fun.names, fun.ids, values[1:]))


def finish_call(machine, e, names, values):
    head, count, body = machine.functions[e[1]]
    if head != "deep" or machine.tick():
        machine.begin(body, bound_names(None, tuple(range(count)), values))


FINISHERS = {
    "number": finish_number,
    "name": finish_name,
    "let": finish_let,
    "var": finish_let,
    "set": finish_set,
    "do": finish_do,
    "if": finish_if,
    "while": finish_while,
    "each": finish_each,
    "say": finish_say,
    "fault": finish_fault,
    "op": finish_op,
    "new": finish_new,
    "get": finish_get,
    "fun": finish_fun,
    "apply": finish_apply,
    "call": finish_call,
}


def first_things(e):
    """The expressions that are reckoned ahead of an expression's own fault, deed, tick or choice."""
    if e[0] == "fun":
        return ()
    if e[0] in ("let", "var", "each", "if", "while"):
        return children_of(e)[:1]
    return children_of(e)


def do_next(machine):
    """Does what waits uppermost."""
    task, e, names, count = machine.waiting.pop()
    taken = machine.take(count)
    if task == "begin":
        things = first_things(e)
        machine.wait("finish", e, names, len(things))
        for thing in things[::-1]:
            machine.begin(thing, names)
    elif task == "finish":
        finisher = FINISHERS[e[0]]
        finisher(machine, e, names, taken)
    elif task == "again":
        machine.begin(e, names)
    else:
        machine.tell(0)


def opened(core, name, values):
    """The open function of this name, where it takes as many values."""
    functions, records, opens = core
    for told, number in opens:
        if told == name and functions[number][1] == len(values):
            return functions[number]
    raise NoOpen("no open function of this name takes so many values")


def run(core, name, values, bound):
    """The deeds, a list of looks, and the end of a run with so many ticks."""
    head, count, body = opened(core, name, values)
    machine = Machine(core[0], bound)
    machine.begin(body, bound_names(None, tuple(range(count)), values))
    while machine.end is None and machine.waiting:
        do_next(machine)
    end = machine.end
    if end is None:
        end = ("back", look(machine.told[0]))
    return machine.deeds, end
