"""What the facts of a desk say about its columns."""

from unbrokenrows.keeping import Kept
from unbrokenrows.tables import Table
from unbrokenrows.windows import Windows
from unbrokenrows.worlds import verdict

NAMED_ROWS = {"row": 1, "near": 1, "span": 3}
OTHER_ROWS = ("end", "first", "last")


def table_of(columns, facts):
    """The table with a row for each fact that gives one."""
    rows = [_row_of(columns, fact.split(" ")) for fact in facts if _gives_row(fact)]
    return Table(columns, rows)


def _gives_row(fact):
    word = fact.split(" ")[0]
    return word in NAMED_ROWS or word in OTHER_ROWS


def _row_of(columns, words):
    if words[0] in NAMED_ROWS:
        return words[NAMED_ROWS[words[0]]:]
    return _others(columns, words[1])


def _others(columns, name):
    return [other for other in columns if other != name]


def pairs_of(columns, facts):
    """The told pairs, each once."""
    found = {}
    for fact in facts:
        for pair in _pairs_in(columns, fact.split(" ")):
            found[pair] = True
    return list(found)


def _pairs_in(columns, words):
    if words[0] == "before":
        return [(words[1], words[2])]
    if words[0] == "over":
        return [(words[2], words[1])]
    if words[0] == "first":
        return [(words[1], other) for other in _others(columns, words[1])]
    if words[0] == "last":
        return [(other, words[1]) for other in _others(columns, words[1])]
    return []


def spans_of(facts):
    """The told spans, with the numbers of the rows that their facts give."""
    rows = [fact.split(" ") for fact in facts if _gives_row(fact)]
    return [(number, int(words[1]), None if words[2] == "-" else int(words[2]))
            for number, words in enumerate(rows) if words[0] == "span"]


def windows_of(facts):
    """The told windows."""
    told = [fact.split(" ") for fact in facts]
    return [(words[1], int(words[2]), int(words[3])) for words in told if words[0] == "window"]


def verdict_of(columns, facts):
    """The verdict of all that the facts say."""
    return verdict(table_of(columns, facts), pairs_of(columns, facts), spans_of(facts), windows_of(facts))


def kept_of(columns, facts):
    """The layouts that keep the told pairs and those that the windows force."""
    table = table_of(columns, facts)
    forced = Windows(table, windows_of(facts)).forced()
    return Kept(table, [*pairs_of(columns, facts), *forced])
