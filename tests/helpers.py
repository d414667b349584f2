"""What the tests share: programs of texts, and places marked in texts."""

from turnsame.errors import NoProgram
from turnsame.reading import Read
from turnsame.tokens import tokens_of

PART_NAMES = ("a", "b", "c", "d", "e", "f", "g")


def program_of(*texts):
    return tuple(zip(PART_NAMES, texts))


def core_of(*texts):
    return Read(program_of(*texts)).core()


def body_of(text, function=0):
    return core_of(text)[0][function][2]


def marks_of(text):
    """The text without its marks, and the numbers of the tokens marked: @ is the place asked, ^ the one told."""
    marked = {}
    number = 0
    for _, word in tokens_of(text)[0]:
        while word and word[0] in "@^":
            marked[word[0]] = number
            word = word[1:]
        # Ahead of a bracket, or at the end, a mark is a word by itself, which goes.
        number += 1 if word else 0
    return text.replace("@", "").replace("^", ""), marked


def asked_program(*texts):
    """A program, the place marked by @ in it, and the one marked by ^, or None."""
    plain, places = [], {}
    for part, text in enumerate(texts):
        without, marked = marks_of(text)
        plain.append(without)
        places.update({sign: (part, at) for sign, at in marked.items()})
    return program_of(*plain), places.get("@"), places.get("^")


def marked_program(*texts):
    """A program, and the place marked by @ in it, or None."""
    return asked_program(*texts)[:2]


def fault_of(program):
    """The place of the program's first fault, or None."""
    try:
        Read(program)
    except NoProgram as fault:
        return fault.part, fault.at
    return None
