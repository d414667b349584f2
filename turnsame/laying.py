"""Cores laid on one another: functions, records and open names told by other numbers and names [37]."""

from turnsame.cores import rebuilt, walked
from turnsame.kinds import is_tuple_of, is_whole


def with_number(e, functions, records):
    """The expression, but for those within it, with its function's or record's number turned."""
    if e[0] == "call":
        return "call", functions[e[1]], e[2]
    if e[0] == "new":
        return "new", records[e[1]], e[2]
    if e[0] == "get":
        return "get", records[e[1]], e[2], e[3]
    return e


def with_numbers(function, functions, records):
    """The function with the numbers that its body tells turned by two rows, or two dicts."""
    head, count, body = function
    return head, count, rebuilt([with_number(node, functions, records) for node in walked(body)])


def laid_core(core, functions, records, names):
    """The core with its functions and records as the numbers that two rows tell, its open names turned by a dict."""
    told_functions = list(core[0])
    for number, function in zip(functions, core[0]):
        told_functions[number] = with_numbers(function, functions, records)
    told_records = list(core[1])
    for number, count in zip(records, core[1]):
        told_records[number] = count
    opens = sorted([(names.get(name, name), functions[number]) for name, number in core[2]])
    return tuple(told_functions), tuple(told_records), tuple(opens)


def is_row_of_all(row, many):
    """True where the row has each of so many numbers from 0 on once."""
    return all([is_whole(number) for number in row]) and sorted(row) == list(range(many))


def turned_row(row):
    """The row by which what the row has laid lies as it lay."""
    told = list(row)
    for number, other in enumerate(row):
        told[other] = number
    return tuple(told)


def are_pairs(opens):
    """True where these are pairs of texts, rising, none twice on either side."""
    for pair in opens:
        if not is_tuple_of(pair, 2) or not isinstance(pair[0], str) or not isinstance(pair[1], str):
            return False
    names = [name for name, former in opens]
    return names == sorted(set(names)) and len(names) == len({former for name, former in opens})


def turned_pairs(opens):
    return tuple(sorted([(former, name) for name, former in opens]))


def open_names(core):
    return [name for name, number in core[2]]


def can_lay(one, other, functions, records, opens):
    """True where these can lay the other core on the one, alike or not."""
    for row, ones, others in ((functions, one[0], other[0]), (records, one[1], other[1])):
        if len(row) != len(others) or not is_row_of_all(row, len(ones)):
            return False
    if not are_pairs(opens):
        return False
    return all([name in open_names(other) and former in open_names(one) for name, former in opens])
