"""Rings of calls [14]."""


def reached(callees, start):
    """What is come to from start by calls, start too: a dict with these numbers as keys."""
    met = {start: True}
    waiting = [start]
    while waiting:
        caller = waiting.pop()
        for callee in callees.get(caller, {}):
            if callee not in met:
                met[callee] = True
                waiting.append(callee)
    return met


def ring_number(calls):
    """The number of the first call, of a list of (caller, callee), that stands in a ring; None where none does."""
    callees = {}
    for caller, callee in calls:
        table = callees.setdefault(caller, {})
        table[callee] = True
    reach = {}
    for number, (caller, callee) in enumerate(calls):
        if callee not in reach:
            reach[callee] = reached(callees, callee)
        if caller in reach[callee]:
            return number
    return None
