"""Narrowing a part to those of its layouts in which one more set of columns is unbroken.

A child of a piece is empty, half full or full, by how many of its columns are in the set.
Functions return None if no layout is left.
"""

from unbrokenrows.parts import at_most_one, firm_part, loose_part, same_kind

EMPTY = 0
HALF = 1
FULL = 2


def filling(part, row):
    """How full a part is of the columns of a row."""
    if part.mask & row == 0:
        return EMPTY
    return FULL if part.mask & row == part.mask else HALF


def narrowed(part, row):
    """The part whose layouts are those of the part in which the row is unbroken."""
    if at_most_one(row) or part.mask == row:
        return part
    for index, child in enumerate(part.children):
        if child.mask & row == row:
            inner = narrowed(child, row)
            if inner is None:
                return None
            return same_kind(part, [*part.children[:index], inner, *part.children[index + 1:]])
    return _narrowed_firm(part, row) if part.word == "firm" else _narrowed_loose(part, row)


def all_narrowed(part, rows):
    """The part after narrowing by several rows."""
    for row in rows:
        part = narrowed(part, row)
        if part is None:
            return None
    return part


def first_too_many(part, rows):
    """The number of the first row that leaves no layout beside the rows before it, or None."""
    for number, row in enumerate(rows):
        part = narrowed(part, row)
        if part is None:
            return number
    return None


def _with_filling(part, row, fill):
    return [child for child in part.children if filling(child, row) == fill]


# What is full stands together, and at most two half full children reach into it from its ends.
def _narrowed_loose(part, row):
    full = _with_filling(part, row, FULL)
    half = _with_filling(part, row, HALF)
    inner = [loose_part(full)] if full else []
    if len(half) > 2:
        return None
    if half:
        left = _lined(half[0], row)
        right = _lined(half[1], row) if len(half) == 2 else []
        if left is None or right is None:
            return None
        inner = [firm_part(left + inner + right[::-1])]
    return loose_part(_with_filling(part, row, EMPTY) + inner)


def _narrowed_firm(part, row):
    fills = [filling(child, row) for child in part.children]
    touched = [at for at, fill in enumerate(fills) if fill != EMPTY]
    low = touched[0]
    high = touched[-1]
    if any([fill != FULL for fill in fills[low + 1:high]]):
        return None
    left = _lined(part.children[low], row)
    right = _lined(part.children[high], row)
    if left is None or right is None:
        return None
    before = list(part.children[:low])
    between = list(part.children[low + 1:high])
    after = list(part.children[high + 1:])
    return firm_part(before + left + between + right[::-1] + after)


def _lined(part, row):
    """Parts in a fixed sequence with what is empty on the left and what is full on the right."""
    if filling(part, row) != HALF:
        return [part]
    if part.word == "firm":
        return _lined_firm(part, row)
    half = _with_filling(part, row, HALF)
    inner = _lined(half[0], row) if half else []
    if len(half) > 1 or inner is None:
        return None
    empty = _with_filling(part, row, EMPTY)
    full = _with_filling(part, row, FULL)
    left = [loose_part(empty)] if empty else []
    right = [loose_part(full)] if full else []
    return left + inner + right


def _lined_firm(part, row):
    children = list(part.children)
    if filling(children[0], row) > filling(children[-1], row):
        children = children[::-1]
    fills = [filling(child, row) for child in children]
    if fills != sorted(fills) or len([fill for fill in fills if fill == HALF]) > 1:
        return None
    found = []
    for child in children:
        inner = _lined(child, row)
        if inner is None:
            return None
        found.extend(inner)
    return found
