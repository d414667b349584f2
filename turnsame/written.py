"""Forms and expressions as they are written: what stands where by the forms of [4] alone [12]."""

from turnsame.errors import NoProgram
from turnsame.forms import MOST_BRACKETS, MOST_FIELDS, MOST_FORMS, MOST_PARAMS, RECORD, is_head, shape_of, sort_of
from turnsame.words import is_name, is_number


class Written:
    """An expression: its sort, its first and last token, the tokens of its own NAMEs, its expressions."""

    def __init__(self, kind, first, last, names, things):
        self.kind = kind
        self.first = first
        self.last = last
        self.names = names
        self.things = things


class Form:
    """A form: its head, its first and last token, the tokens of its NAME and of its params or fields, its body."""

    def __init__(self, head, first, last, name, names, body):
        self.head = head
        self.first = first
        self.last = last
        self.name = name
        self.names = names
        self.body = body


class Cursor:
    """Goes over a part's words from the left, and refuses at the first one that can not stand where it does."""

    def __init__(self, part, row):
        self.part = part
        self.row = row
        self.at = 0
        self.deep = 0

    def here(self):
        """The word to be taken next: the empty text, which is no word, where there is none."""
        return self.row[self.at] if self.at < len(self.row) else ""

    def pass_begin(self):
        if self.here() != "(" or self.deep == MOST_BRACKETS:
            raise NoProgram(self.part, self.at)
        self.deep += 1
        self.at += 1

    def pass_end(self):
        if self.here() != ")":
            raise NoProgram(self.part, self.at)
        self.deep -= 1
        self.at += 1

    def take_name(self):
        if not is_name(self.here()):
            raise NoProgram(self.part, self.at)
        self.at += 1
        return self.at - 1

    def take_names(self, many):
        return tuple([self.take_name() for number in range(many)])

    def take_unlike(self, least, most):
        """So many NAMEs, each another one, up to a )."""
        names = []
        told = {}
        while len(names) < least or self.here() != ")":
            if len(names) == most or self.here() in told:
                raise NoProgram(self.part, self.at)
            told[self.here()] = True
            names.append(self.take_name())
        return tuple(names)

    def take_params(self):
        self.pass_begin()
        names = self.take_unlike(0, MOST_PARAMS)
        self.pass_end()
        return names

    def take_expression(self):
        word = self.here()
        if word == "(":
            return self.take_brackets()
        if not is_number(word) and not is_name(word):
            raise NoProgram(self.part, self.at)
        self.at += 1
        sort = "number" if is_number(word) else "name"
        return Written(sort, self.at - 1, self.at - 1, (), ())

    def take_brackets(self):
        """An expression in brackets."""
        first = self.at
        self.pass_begin()
        sort = sort_of(self.here())
        if sort is None:
            raise NoProgram(self.part, self.at)
        # The first word of a call is a NAME of its own, that of another sort is none.
        if sort != "call":
            self.at += 1
        many, least, most = shape_of(sort)
        names = self.take_params() if sort == "fun" else self.take_names(many)
        things = self.take_things(least, most)
        self.pass_end()
        return Written(sort, first, self.at - 1, names, things)

    def take_things(self, least, most):
        things = []
        while len(things) < least or self.here() != ")":
            if len(things) == most:
                raise NoProgram(self.part, self.at)
            things.append(self.take_expression())
        return tuple(things)

    def take_form(self):
        first = self.at
        self.pass_begin()
        head = self.here()
        if head != RECORD and not is_head(head):
            raise NoProgram(self.part, self.at)
        self.at += 1
        name = self.take_name()
        body = None
        if head == RECORD:
            names = self.take_unlike(1, MOST_FIELDS)
        else:
            names = self.take_params()
            body = self.take_expression()
        self.pass_end()
        return Form(head, first, self.at - 1, name, names, body)


def forms_of(part, row, ahead):
    """The forms that a part's words write, where so many forms stand in the parts ahead of it."""
    cursor = Cursor(part, row)
    forms = []
    while cursor.at < len(row):
        if ahead + len(forms) == MOST_FORMS:
            raise NoProgram(part, cursor.at)
        forms.append(cursor.take_form())
    return forms
