"""The small checker: whether a paper shows that two cores are the same [37] to [39]."""

from turnsame.errors import NoPaper, NoStep
from turnsame.kinds import is_tuple_of
from turnsame.laying import are_pairs, can_lay, is_row_of_all, laid_core, turned_pairs, turned_row
from turnsame.rules import stepped


def turned_core(core, steps, side):
    """The core behind all steps."""
    for number, step in enumerate(steps):
        try:
            core = stepped(core, step)
        except NoStep:
            raise NoPaper(side, number) from None
    return core


def checked(one, other, paper):
    """True where the paper, any plain thing, is let by for two cores."""
    if not is_tuple_of(paper, 5) or not all([isinstance(part, tuple) for part in paper]):
        raise NoPaper(2, 0)
    there, back, functions, records, opens = paper
    first = turned_core(one, there, 0)
    second = turned_core(other, back, 1)
    if not can_lay(first, second, functions, records, opens):
        raise NoPaper(2, 1)
    if laid_core(second, functions, records, dict(opens)) != first:
        raise NoPaper(2, 2)
    return True


def back_row(row):
    """The row turned about; one that no paper may have stays, so that it is refused the other way, too."""
    return turned_row(row) if is_row_of_all(row, len(row)) else row


def back_paper(paper):
    """The paper the other way: from the other to the one."""
    there, back, functions, records, opens = paper
    return back, there, back_row(functions), back_row(records), turned_pairs(opens) if are_pairs(opens) else opens
