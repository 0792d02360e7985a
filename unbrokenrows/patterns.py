"""Patterns: five kinds of small tables without a layout, and where they lie in a table."""

from unbrokenrows.errors import BadKind
from unbrokenrows.matching import matching
from unbrokenrows.names import first_stray
from unbrokenrows.narrowing import all_narrowed, first_too_many
from unbrokenrows.parts import all_loose, mask_of
from unbrokenrows.tables import Table

KINDS = (1, 2, 3, 4, 5)
MORE_COLUMNS = {1: 2, 2: 3, 3: 3}
FIXED_COLUMNS = {4: 6, 5: 5}
FIXED_ROWS = {4: ((0, 1), (2, 3), (4, 5), (1, 3, 5)), 5: ((0, 1), (2, 3), (0, 1, 2, 3), (1, 2, 4))}


def standard_rows(kind, size):
    """The rows of a standard table."""
    last = standard_width(kind, size) - 1
    if kind in FIXED_ROWS:
        return list(FIXED_ROWS[kind])
    rows = [(at, at + 1) for at in range(size + 1)]
    if kind == 1:
        return [*rows, (0, last)]
    inner = tuple(range(1, size + 1))
    if kind == 2:
        return [*rows, (0, *inner, last), (*inner, size + 1, last)]
    return [*rows, (*inner, last)]


def standard_width(kind, size):
    """The number of the columns of a standard table."""
    width = 0
    if kind in MORE_COLUMNS and size >= 1:
        width = size + MORE_COLUMNS[kind]
    if kind in FIXED_COLUMNS and size == 1:
        width = FIXED_COLUMNS[kind]
    if not 0 < width <= Table.MOST_COLUMNS:
        raise BadKind(kind, size)
    return width


class Pattern:
    """Where a standard table lies in a table. Nothing is checked here."""

    def __init__(self, kind, size, rows, columns):
        self.kind = kind
        self.size = size
        self.rows = tuple(rows)
        self.columns = tuple(columns)

    def __eq__(self, other):
        return (isinstance(other, Pattern) and self.kind == other.kind and self.size == other.size
                and self.rows == other.rows and self.columns == other.columns)


def lies_in(table, pattern):
    """True if the pattern lies in the table."""
    try:
        rows = standard_rows(pattern.kind, pattern.size)
        width = standard_width(pattern.kind, pattern.size)
    except BadKind:
        return False
    if len(pattern.rows) != len(rows) or len(pattern.columns) != width:
        return False
    if first_stray(list(range(len(table))), pattern.rows) is not None:
        return False
    if first_stray(table.columns, pattern.columns) is not None:
        return False
    return all([_is_alike(table[number], pattern.columns, row) for number, row in zip(pattern.rows, rows)])


def _is_alike(names, columns, row):
    return [name in names for name in columns] == [place in row for place in range(len(columns))]


def find_pattern(table):
    """Some pattern that lies in the table, None if the table has a layout."""
    rows = [mask_of(row, table.columns) for row in table.rows]
    numbers = _needed_rows(len(table.columns), rows)
    if numbers is None:
        return None
    columns = _needed_columns(table.columns, [rows[number] for number in numbers])
    # Nothing can be left out any more, and a pattern lies in what is left, so it is all of it.
    inner = table.only(columns)
    found = recognized(Table(inner.columns, [inner[number] for number in numbers]))
    return Pattern(found.kind, found.size, [numbers[number] for number in found.rows], found.columns)


def _needed_rows(many, rows):
    """Rows without a layout that have one if any of them is left out, None if all rows have one."""
    needed = []
    part = all_loose(many)
    end = len(rows)
    while part is not None:
        number = first_too_many(part, rows[:end])
        if number is None:
            return None
        needed.append(number)
        part = all_narrowed(part, [rows[number]])
        end = number
    return sorted(needed)


def _needed_columns(columns, rows):
    """The columns that are left if each one is left out without which there is still no layout."""
    left = mask_of(columns, columns)
    for number in range(len(columns)):
        fewer = left & ~(1 << number)
        if all_narrowed(all_loose(len(columns)), [row & fewer for row in rows]) is None:
            left = fewer
    return [name for number, name in enumerate(columns) if left >> number & 1]


def recognized(table):
    """Some pattern with all rows and all columns of the table, None if there is none."""
    masks = [mask_of(row, table.columns) for row in table.rows]
    for kind in KINDS:
        size = len(table.columns) - MORE_COLUMNS[kind] if kind in MORE_COLUMNS else 1
        found = _matched(kind, size, masks, len(table.columns))
        if found is not None:
            numbers, columns = found
            return Pattern(kind, size, numbers, [table.columns[column] for column in columns])
    return None


def _matched(kind, size, masks, width):
    try:
        rows = standard_rows(kind, size)
    except BadKind:
        return None
    return matching(rows, masks, width) if standard_width(kind, size) == width else None
