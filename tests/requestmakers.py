"""Requests by chance, such as are likely to be told."""

from turnsame.reading import Read

NAMES = ("a", "b", "c", "v", "w", "x", "y", "fa", "fb", "do")


def expressions(read, word):
    functions = read.core()[0]
    told = []
    for place, (function, path) in read.all_nodes():
        e = functions[function][2]
        for number in path:
            e = flat_children(e)[number]
        if word in (None, e[0]):
            told.append(place)
    return told


def flat_children(e):
    if e[0] in ("do", "op", "new", "call"):
        return e[-1]
    if e[0] == "apply":
        return (e[1],) + e[2]
    return [part for part in e[1:] if isinstance(part, tuple) and part and isinstance(part[0], str)]


def any_request(chance, program, word=None):
    """A request of the word, or of any one."""
    word = word or chance.choice("rename move put take field draw inplace flip part name spread".split())
    read = Read(program)
    things = {"rename": None, "move": "function", "put": "function", "take": "local", "field": "field"}
    if word in things:
        places = [place for place, thing in read.all_places() if things[word] in (None, thing[0])]
    else:
        sort = {"inplace": "call", "flip": "if", "part": "each", "spread": "let"}.get(word)
        places = expressions(read, sort)
    if not places or chance.random() < 0.02:
        part = chance.randrange(len(program))
        places = [(part, chance.randint(0, len(read.words(part))))]
    name, k = chance.choice(NAMES), chance.randint(0, 3)
    more = {"rename": (name,), "move": (chance.randrange(len(program)),), "put": (k, name, chance.choice((0, 5, -7))), "take": (), "field": (k,),
            "draw": (name,), "inplace": (), "flip": (), "part": (k,), "name": (name,), "spread": ()}
    return (word,) + chance.choice(places) + more[word]
