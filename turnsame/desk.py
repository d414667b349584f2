"""The desk: rows told, each one answered with a text [83]."""

from turnsame.benches import Bench
from turnsame.checking import checked
from turnsame.errors import NoPaper, NoRow
from turnsame.papertexts import paper_lines, read_paper
from turnsame.reading import Read
from turnsame.running import run
from turnsame.turnings import REQUESTS
from turnsame.words import MOST_FIGURES, is_count_word, is_name, is_number, number_of

MOST_TICKS = 10000


def refuse_unless(right):
    if not right:
        raise NoRow("no such row")


def part_number(bench, name):
    """The number of the part of this name."""
    names = [other for other, text in bench.program()]
    refuse_unless(name in names)
    return names.index(name)


def thing_of(bench, slot, word):
    """What a word of a request's row writes in its slot."""
    if slot == "part":
        return part_number(bench, word)
    if slot == "count":
        refuse_unless(is_count_word(word))
        return int(word)
    if slot == "whole":
        refuse_unless(is_number(word))
        return number_of(word)
    return word


def say_request(bench, words):
    slots = REQUESTS[words[0]]
    refuse_unless(len(words) == 1 + len(slots))
    things = [thing_of(bench, slot, word) for slot, word in zip(slots, words[1:])]
    bench.turn((words[0],) + tuple(things))
    return "ok"


def say_text(bench, words):
    refuse_unless(len(words) == 2)
    return bench.program()[part_number(bench, words[1])][1]


def say_undo(bench, words):
    refuse_unless(len(words) == 1)
    bench.undo()
    return "ok"


def say_redo(bench, words):
    refuse_unless(len(words) == 1)
    bench.redo()
    return "ok"


def say_done(bench, words):
    refuse_unless(len(words) == 1)
    return str(len(bench.requests()))


def say_paper(bench, words):
    refuse_unless(len(words) == 1)
    return "\n".join(paper_lines(bench.last_turn().paper))


def look_word(look):
    """How an outside look is written."""
    if isinstance(look, tuple):
        numbers = " ".join([str(number) for number in look])
        return f"[{numbers}]"
    return str(look)


def is_bound(word):
    return is_count_word(word) and len(word) <= MOST_FIGURES and int(word) <= MOST_TICKS


def say_run(bench, words):
    refuse_unless(len(words) >= 3 and is_name(words[1]) and is_bound(words[2]))
    refuse_unless(all([is_number(word) for word in words[3:]]))
    core = Read(bench.program()).core()
    deeds, end = run(core, words[1], [number_of(word) for word in words[3:]], int(words[2]))
    ended = " ".join([look_word(part) for part in end])
    return "\n".join([f"say {look_word(look)}" for look in deeds] + [ended])


ANSWERS = {
    "text": say_text,
    "undo": say_undo,
    "redo": say_redo,
    "done": say_done,
    "paper": say_paper,
    "run": say_run,
}


def is_row_word(word):
    return len(word) > 0 and all(["!" <= sign <= "~" for sign in word])


def say_words(bench, words):
    """The answer to a row without a line end."""
    refuse_unless(all([is_row_word(word) for word in words]))
    if words[0] in REQUESTS:
        return say_request(bench, words)
    refuse_unless(words[0] in ANSWERS)
    answer = ANSWERS[words[0]]
    return answer(bench, words)


def say_check(bench, lines):
    """Whether the lines write a paper that is let by for the last turning done."""
    turn = bench.last_turn()
    paper = read_paper(lines)
    try:
        checked(Read(turn.ahead).core(), Read(turn.behind).core(), paper)
    except NoPaper:
        return "not"
    return "let by"


def with_part(program, name, text):
    """The program with a part laid behind the others, or in the place of the one of this name."""
    names = [other for other, told in program]
    if name not in names:
        return program + ((name, text),)
    at = names.index(name)
    return program[:at] + ((name, text),) + program[at + 1:]


class Desk:
    """Parts laid and turned; they lie on a bench, which need not be of a right program until one is asked for."""

    def __init__(self):
        self.bench = Bench(())

    def say(self, row):
        """The answer to a row."""
        line, end, rest = row.partition("\n")
        if end == "":
            return say_words(self.bench, line.split(" "))
        if line == "check":
            return say_check(self.bench, rest.split("\n"))
        words = line.split(" ")
        refuse_unless(len(words) == 2 and words[0] == "part" and is_name(words[1]))
        self.bench = Bench(with_part(self.bench.program(), words[1], rest))
        return "ok"
