"""What names mean [5], and the first NAME that means nothing [13]."""

from turnsame.errors import NoProgram
from turnsame.forms import RECORD


class Tables:
    """A program's functions, as (head, count of params), its records, as their fields' names, and who is called how."""

    def __init__(self, rows, parts):
        self.functions = []
        self.records = []
        # A dict for each part: a name, and the number of the first function (record) of that name in it.
        self.function_tables = [{} for forms in parts]
        self.record_tables = [{} for forms in parts]
        for part, forms in enumerate(parts):
            for form in forms:
                self.enter(part, form, rows[part])

    def enter(self, part, form, row):
        name = row[form.name]
        if form.head == RECORD:
            self.record_tables[part].setdefault(name, len(self.records))
            self.records.append(tuple([row[at] for at in form.names]))
        else:
            self.function_tables[part].setdefault(name, len(self.functions))
            self.functions.append((form.head, len(form.names)))


def meant_number(tables, part, name):
    """The number that a name means in a part: the part's own, else that of the first part that has one; or None."""
    if name in tables[part]:
        return tables[part][name]
    for table in tables:
        if name in table:
            return table[name]
    return None


class Walk:
    """Goes over a program's forms in the order of tokens, and notes what they tell and mean.

    A scope is a tuple of binders (name, id, sort), the innermost last. A binder's sort is var; or barred, where it
    is a var from outside of a fun around; or fixed.
    """

    def __init__(self, rows, tables):
        self.rows = rows
        self.tables = tables
        self.meant = {}
        self.places = {}
        self.forms = {}
        self.nodes = {}
        self.spans = {}
        self.scopes = {}
        self.opens = {}
        self.calls = []
        self.bodies = []
        # Where the walk is: its part, the next function's and record's number, the next id.
        self.part = 0
        self.function = 0
        self.record = 0
        self.fresh = 0

    def word_at(self, at):
        return self.rows[self.part][at]

    def note(self, at, thing):
        place = (self.part, at)
        self.meant[place] = thing
        places = self.places.setdefault(thing, [])
        places.append(place)

    def note_form(self, form, thing, number):
        """Notes a form whose NAME means the number in its own part: another one than its own was told ahead of it."""
        if number != thing[1]:
            raise NoProgram(self.part, form.name)
        self.note(form.name, thing)
        self.forms[thing] = (self.part, form.first, form.last - form.first + 1)

    def note_open(self, form):
        name = self.word_at(form.name)
        if name in self.opens:
            raise NoProgram(self.part, form.name)
        self.opens[name] = self.function

    def note_expression(self, written, path, scope):
        node = (self.function, path)
        self.nodes[(self.part, written.first)] = node
        self.spans[node] = (self.part, written.first, written.last - written.first + 1)
        self.scopes[node] = scope

    def bind(self, at, sort):
        """The binder of the NAME at a token, with the next id."""
        binder = (self.word_at(at), self.fresh, sort)
        self.note(at, ("local", self.function, self.fresh))
        self.fresh += 1
        return binder

    def local_meant(self, at, scope, sorts):
        """The id that the NAME at a token means; its binder has to be of one of these sorts."""
        for name, number, sort in scope[::-1]:
            if name == self.word_at(at):
                if sort not in sorts:
                    raise NoProgram(self.part, at)
                self.note(at, ("local", self.function, number))
                return number
        raise NoProgram(self.part, at)

    def function_meant(self, at):
        number = meant_number(self.tables.function_tables, self.part, self.word_at(at))
        if number is None or self.tables.functions[number][0] == "open":
            raise NoProgram(self.part, at)
        self.note(at, ("function", number))
        self.calls.append((self.part, at, self.function, number))
        return number

    def record_meant(self, at):
        number = meant_number(self.tables.record_tables, self.part, self.word_at(at))
        if number is None:
            raise NoProgram(self.part, at)
        self.note(at, ("record", number))
        return number

    def field_meant(self, at, record):
        names = self.tables.records[record]
        if self.word_at(at) not in names:
            raise NoProgram(self.part, at)
        number = names.index(self.word_at(at))
        self.note(at, ("field", record, number))
        return number
