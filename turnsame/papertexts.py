"""Papers written as lines, and read again [82]."""

from turnsame.errors import NoLines
from turnsame.steps import STEPS
from turnsame.words import is_count_word, is_name

NO_NUMBERS = "-"


def numbers_word(numbers):
    """The word that a path or an order makes."""
    return ".".join([str(number) for number in numbers]) if numbers else NO_NUMBERS


def step_line(side, step):
    words = [side, step[0]]
    for slot, thing in zip(STEPS[step[0]], step[1:]):
        words.append(str(thing) if slot == "number" else numbers_word(thing))
    return " ".join(words)


def row_line(word, numbers):
    return " ".join([word] + [str(number) for number in numbers])


def paper_lines(paper):
    """The lines that write the paper."""
    there, back, functions, records, opens = paper
    lines = [step_line("there", step) for step in there] + [step_line("back", step) for step in back]
    lines.extend([row_line("functions", functions), row_line("records", records)])
    return lines + [f"open {name} {former}" for name, former in opens]


def is_numbers_word(word):
    return word == NO_NUMBERS or all([is_count_word(part) for part in word.split(".")])


def fits_word(slot, word):
    return is_count_word(word) if slot == "number" else is_numbers_word(word)


def thing_of(slot, word):
    """What a word writes that fits its slot."""
    if slot == "number":
        return int(word)
    return () if word == NO_NUMBERS else tuple([int(part) for part in word.split(".")])


def read_step(words, row):
    """The step that the words of a line write, behind the first one."""
    if len(words) < 2 or words[1] not in STEPS:
        raise NoLines(row)
    slots = STEPS[words[1]]
    if len(words) != 2 + len(slots) or not all([fits_word(slot, word) for slot, word in zip(slots, words[2:])]):
        raise NoLines(row)
    return (words[1],) + tuple([thing_of(slot, word) for slot, word in zip(slots, words[2:])])


def read_steps(side, lines, row):
    """The steps of a side, as many as stand from the row on."""
    steps = []
    for number, line in enumerate(lines[row:]):
        words = line.split(" ")
        if words[0] != side:
            break
        steps.append(read_step(words, row + number))
    return tuple(steps)


def read_row(word, lines, row):
    """The numbers of the line of this word, which has to stand at the row."""
    words = lines[row].split(" ") if row < len(lines) else []
    if not words or words[0] != word or not all([is_count_word(number) for number in words[1:]]):
        raise NoLines(row)
    return tuple([int(number) for number in words[1:]])


def read_opens(lines, row):
    """The pairs of names that all lines from the row on write."""
    opens = []
    for number, line in enumerate(lines[row:]):
        words = line.split(" ")
        if len(words) != 3 or words[0] != "open" or not is_name(words[1]) or not is_name(words[2]):
            raise NoLines(row + number)
        if opens and words[1] <= opens[-1][0]:
            raise NoLines(row + number)
        opens.append((words[1], words[2]))
    return tuple(opens)


def read_paper(lines):
    """The paper that the lines write."""
    there = read_steps("there", lines, 0)
    back = read_steps("back", lines, len(there))
    row = len(there) + len(back)
    functions = read_row("functions", lines, row)
    records = read_row("records", lines, row + 1)
    return there, back, functions, records, read_opens(lines, row + 2)
