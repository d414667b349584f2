"""What names mean, the plain way: for each token that is a thing's name, the place where that thing is told.

Nothing is refused: a name that means nothing means None.
"""

from turnsame.tokens import tokens_of
from turnsame.trees import tree_of

WORDS = "let var set do if while each say fault add sub mul div less same at not size row new get fun apply".split()
HEADS = ("function", "deep", "open")


class PlainNames:
    def __init__(self, program):
        self.trees = [tree_of([word for _, word in tokens_of(text)[0]]) for _, text in program]
        self.functions = [{} for _ in program]
        self.records = [{} for _ in program]
        self.fields = {}
        self.meant = {}
        # Rows of places whose names may not be alike, each row by itself.
        self.unlike = []
        for self.part, tree in enumerate(self.trees):
            self.enter(tree)
        for self.part, tree in enumerate(self.trees):
            for _, nodes, _ in tree:
                if nodes[0][1] in HEADS:
                    self.function(nodes)
        opens = [(part, nodes[1]) for part, tree in enumerate(self.trees) for _, nodes, _ in tree if nodes[0][1] == "open"]
        self.unlike.append([(name, (part, at)) for part, (at, name) in opens])

    def enter(self, tree):
        names = {True: [], False: []}
        for _, nodes, _ in tree:
            at, name = nodes[1]
            is_record = nodes[0][1] == "record"
            place = (self.part, at)
            (self.records if is_record else self.functions)[self.part].setdefault(name, place)
            names[is_record].append((name, place))
            self.meant[place] = place
            if is_record:
                fields = [(field, (self.part, spot)) for spot, field in nodes[2:]]
                self.fields[place] = dict(fields)
                self.unlike.append(fields)
                self.meant.update({spot: spot for _, spot in fields})
        self.unlike.extend(names.values())

    def twice(self):
        """Pairs of places whose names are alike, but may not be."""
        return [(one, other) for row in self.unlike for name, one in row for word, other in row if name == word and one != other]

    def find(self, tables, name):
        for table in [tables[self.part]] + tables:
            if name in table:
                return table[name]
        return None

    def binders(self, nodes):
        told = [(name, (self.part, at)) for at, name in nodes]
        self.unlike.append(told)
        self.meant.update({place: place for _, place in told})
        return dict(told)

    def function(self, nodes):
        self.walk(nodes[3], self.binders(nodes[2][1]))

    def mean(self, at, place):
        self.meant[(self.part, at)] = place
        return place

    def walk(self, node, seen):
        if len(node) == 2:
            if node[1].isalpha():
                self.mean(node[0], seen.get(node[1]))
            return
        first, *rest = node[1]
        word = first[1]
        if word in ("let", "var", "each"):
            self.walk(rest[1], seen)
            self.walk(rest[2], {**seen, **self.binders(rest[:1])})
        elif word == "fun":
            self.walk(rest[1], {**seen, **self.binders(rest[0][1])})
        elif word == "set":
            self.mean(rest[0][0], seen.get(rest[0][1]))
            self.walk(rest[1], seen)
        elif word in ("new", "get"):
            record = self.mean(rest[0][0], self.find(self.records, rest[0][1]))
            if word == "get":
                self.mean(rest[1][0], self.fields.get(record, {}).get(rest[1][1]))
            for thing in rest[1 if word == "new" else 2:]:
                self.walk(thing, seen)
        elif word != "fault":
            if word not in WORDS:
                self.mean(first[0], self.find(self.functions, word))
            for thing in rest:
                self.walk(thing, seen)
