"""Programs read: what they tell, or their first fault [12] to [18]."""

from turnsame.bodies import read_expression
from turnsame.errors import NoProgram
from turnsame.forms import RECORD
from turnsame.meanings import Tables, Walk
from turnsame.rings import ring_number
from turnsame.tokens import tokens_of
from turnsame.words import is_name
from turnsame.written import forms_of

MOST_PARTS = 6
MOST_TOKENS = 1000


def rows_of(program):
    """A list of words for each part, where the parts themselves are as told."""
    if not 1 <= len(program) <= MOST_PARTS:
        raise NoProgram(-1, -1)
    rows = []
    names = []
    for part, (name, text) in enumerate(program):
        tokens, tail = tokens_of(text)
        if not is_name(name) or name in names or len(tokens) > MOST_TOKENS:
            raise NoProgram(part, -1)
        names.append(name)
        rows.append([word for gap, word in tokens])
    return rows


def written_parts(rows):
    """A list of forms for each part, where all words can stand where they stand."""
    parts = []
    ahead = 0
    for part, row in enumerate(rows):
        forms = forms_of(part, row, ahead)
        ahead += len(forms)
        parts.append(forms)
    return parts


def walk_record(walk, form):
    number = walk.tables.record_tables[walk.part][walk.word_at(form.name)]
    walk.note_form(form, ("record", walk.record), number)
    for field, at in enumerate(form.names):
        walk.note(at, ("field", walk.record, field))
    walk.record += 1


def walk_function(walk, form):
    number = walk.tables.function_tables[walk.part][walk.word_at(form.name)]
    walk.note_form(form, ("function", walk.function), number)
    if form.head == "open":
        walk.note_open(form)
    walk.fresh = 0
    scope = tuple([walk.bind(at, "fixed") for at in form.names])
    walk.bodies.append(read_expression(walk, form.body, (), scope))
    walk.function += 1


def walk_of(rows, parts):
    """A walk over all forms, where all names are as told in [5]."""
    walk = Walk(rows, Tables(rows, parts))
    for part, forms in enumerate(parts):
        walk.part = part
        for form in forms:
            if form.head == RECORD:
                walk_record(walk, form)
            else:
                walk_function(walk, form)
    return walk


def refuse_rings(walk):
    heads = [head for head, count in walk.tables.functions]
    calls = [call for call in walk.calls if heads[call[2]] == "function" and heads[call[3]] == "function"]
    number = ring_number([(caller, callee) for part, at, caller, callee in calls])
    if number is not None:
        raise NoProgram(calls[number][0], calls[number][1])


def core_of(walk):
    tables = walk.tables
    functions = tuple([(head, count, body) for (head, count), body in zip(tables.functions, walk.bodies)])
    records = tuple([len(names) for names in tables.records])
    return functions, records, tuple(sorted(walk.opens.items()))


class Read:
    """A program that is read."""

    def __init__(self, program):
        rows = rows_of(program)
        self.walk = walk_of(rows, written_parts(rows))
        refuse_rings(self.walk)
        self.whole = core_of(self.walk)

    def core(self):
        return self.whole

    def words(self, part):
        """A list of the part's words; [] where there is no such part."""
        rows = self.walk.rows
        return list(rows[part]) if 0 <= part < len(rows) else []

    def thing_at(self, part, at):
        """The thing whose name the token is, or None."""
        return self.walk.meant.get((part, at))

    def places_of(self, thing):
        """All places that tell the thing, rising."""
        return list(self.walk.places.get(thing, []))

    def all_places(self):
        """All places that tell a thing, rising, each with its thing."""
        return sorted(self.walk.meant.items())

    def node_at(self, part, at):
        """The expression that begins at the token, as (function, path), or None."""
        return self.walk.nodes.get((part, at))

    def all_nodes(self):
        """All places at which an expression begins, rising, each with its (function, path)."""
        return sorted(self.walk.nodes.items())

    def span_of(self, function, path):
        """An expression's tokens, as (part, first, count), or None."""
        return self.walk.spans.get((function, path))

    def form_of(self, thing):
        """The tokens of a function's or record's form, as (part, first, count), or None."""
        return self.walk.forms.get(thing)

    def names_at(self, function, path):
        """The names seen at an expression, as (name, id), the outermost first."""
        return [(name, number) for name, number, sort in self.walk.scopes.get((function, path), ())]
