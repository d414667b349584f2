"""The rules: a core and a step tell the core behind it [34] to [36]."""

from turnsame.atplace import AT_PLACE
from turnsame.cores import at_path, canon, children_of, put_at
from turnsame.errors import NoStep
from turnsame.overall import OVERALL
from turnsame.steps import is_step

MOST_EXPRESSIONS = 4000
MOST_WITHIN = 200


def changed_at_place(core, step):
    """The core with what a rule tells in the place of the expression at a path; None where it is not right."""
    functions, records, opens = core
    number, path = step[1], step[2]
    if number >= len(functions):
        return None
    head, count, body = functions[number]
    e = at_path(body, path)
    if e is None:
        return None
    rule = AT_PLACE[step[0]]
    other = rule(core, step, e)
    if other is None:
        return None
    told = (head, count, put_at(body, path, other))
    return functions[:number] + (told,) + functions[number + 1:], records, opens


def changed(core, step):
    if step[0] in AT_PLACE:
        return changed_at_place(core, step)
    rule = OVERALL[step[0]]
    return rule(core, step)


def is_small(core):
    """True where the core's expressions are within the bounds, in all and within one another."""
    met = 0
    waiting = [(body, 1) for head, count, body in core[0]]
    # A spread may tell millions of expressions, so the count ends with the first one too many.
    while waiting:
        node, deep = waiting.pop()
        met += 1
        if met > MOST_EXPRESSIONS or deep > MOST_WITHIN:
            return False
        waiting.extend([(child, deep + 1) for child in children_of(node)])
    return True


def stepped(core, step):
    """The core behind the step."""
    told = changed(core, step) if is_step(step) else None
    if told is None:
        raise NoStep("no step, or not right")
    if not is_small(told):
        raise NoStep("too many expressions, in all or within one another")
    functions, records, opens = told
    # A function that the core handed in has, too, is canonical already.
    functions = tuple([function if function in core[0] else canon(function) for function in functions])
    return functions, records, opens
