"""The tree of a list of words [11]."""

from turnsame.errors import NoTree


def tree_of(words):
    """A tuple of nodes: (at, word), or (at, nodes, end) for what stands in brackets."""
    # One row of nodes for each bracket that is still without its ), the outermost first.
    rows = [[]]
    begins = []
    for at, word in enumerate(words):
        if word == "(":
            begins.append(at)
            rows.append([])
        elif word == ")":
            if not begins:
                raise NoTree(at)
            nodes = tuple(rows.pop())
            rows[-1].append((begins.pop(), nodes, at))
        else:
            rows[-1].append((at, word))
    if begins:
        raise NoTree(len(words))
    return tuple(rows[0])
