"""Papers as turnings tell them [53]."""


def plain_paper(core, there, back, opens):
    """A paper whose functions and records are those of the core: 0, 1 and on."""
    functions, records, names = core
    return there, back, tuple(range(len(functions))), tuple(range(len(records))), opens
