"""What the tests share: programs of texts, and places marked in texts."""

from turnsame.errors import NoProgram
from turnsame.reading import Read
from turnsame.tokens import tokens_of

PART_NAMES = ("a", "b", "c", "d", "e", "f", "g")


def program_of(*texts):
    return tuple(zip(PART_NAMES, texts))


def core_of(*texts):
    return Read(program_of(*texts)).core()


def body_of(text, function=0):
    return core_of(text)[0][function][2]


def unmarked(text):
    """The text without its mark, an @ right ahead of a word or at the end, and the number of the token marked."""
    words = [word for _, word in tokens_of(text)[0]]
    marks = [number for number, word in enumerate(words) if word.startswith("@")]
    if not marks:
        return text, None
    return text.replace("@", ""), marks[0]


def marked_program(*texts):
    """A program, and the place marked in it, or None."""
    place = None
    plain = []
    for part, text in enumerate(texts):
        without, at = unmarked(text)
        plain.append(without)
        if at is not None:
            place = (part, at)
    return program_of(*plain), place


def fault_of(program):
    """The place of the program's first fault, or None."""
    try:
        Read(program)
    except NoProgram as fault:
        return fault.part, fault.at
    return None
