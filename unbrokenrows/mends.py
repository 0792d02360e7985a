"""Mends: what can be taken out of a table so that it has a layout."""

from unbrokenrows.errors import BadNumber, NoMend, TooMany
from unbrokenrows.narrowing import all_narrowed
from unbrokenrows.parts import all_loose, mask_of
from unbrokenrows.patterns import Pattern, find_pattern

MOST_MARKS = 40
MOST_OUT = 2
MOST_ROWS = 6


def single_rows(table):
    """The numbers of the rows without which the table has a layout."""
    rows = _masks(table)
    return [number for number in range(len(rows)) if _has_layout(table, [*rows[:number], *rows[number + 1:]])]


def single_columns(table):
    """The columns without which the table has a layout."""
    rows = _masks(table)
    # A column without marks is in nobody's way.
    return [name for number, name in enumerate(table.columns)
            if _has_layout(table, [row & ~(1 << number) for row in rows])]


def single_marks(table):
    """The marks, each a row and one of its columns, without which the table has a layout."""
    if table.marks() > MOST_MARKS:
        raise TooMany(table.marks())
    marks = [(number, name) for number, row in enumerate(table.rows) for name in row]
    return [mark for mark in marks if _has_layout(table, _without_mark(table, mark))]


def _masks(table):
    return [mask_of(row, table.columns) for row in table.rows]


def _has_layout(table, rows):
    """True if the columns of the table and these rows have a layout."""
    return all_narrowed(all_loose(len(table.columns)), rows) is not None


def _without_mark(table, mark):
    number, name = mark
    rows = _masks(table)
    rows[number] = rows[number] & ~mask_of([name], table.columns)
    return rows


class Mend:
    """Rows that are taken out, and cases that show that fewer are not enough."""

    def __init__(self, rows, cases):
        self.rows = rows
        self.cases = cases


def fewest_rows(table, most):
    """As few rows as possible, but not more than so many, without which the table has a layout."""
    if not 0 <= most <= MOST_OUT:
        raise BadNumber(most)
    if len(table) > MOST_ROWS:
        raise TooMany(len(table))
    for many in range(most + 1):
        for taken in _choices(len(table), many):
            if find_pattern(table.without(*taken)) is None:
                return Mend(taken, _case(table, (), many - 1) if many > 0 else None)
    raise NoMend(_case(table, (), most))


def _choices(rows, many):
    """All choices of so many rows, each ascending."""
    if many == 0:
        return [()]
    fewer = _choices(rows, many - 1)
    return [(*taken, number) for taken in fewer for number in range(rows) if number > max(taken, default=-1)]


def _case(table, taken, depth):
    """A pattern that is left when rows are taken out, and the cases in which one of its rows is so too."""
    pattern = _pattern_without(table, taken)
    if depth == 0:
        return pattern, ()
    return pattern, tuple([_case(table, (*taken, number), depth - 1) for number in pattern.rows])


def _pattern_without(table, taken):
    found = find_pattern(table.without(*taken))
    left = [number for number in range(len(table)) if number not in taken]
    return Pattern(found.kind, found.size, [left[number] for number in found.rows], found.columns)
