"""Layouts of a part in which a set of columns is broken."""

from unbrokenrows.orders import count_runs
from unbrokenrows.parts import numbers_in


def broken_layout(part, row):
    """A layout, as a list of numbers of columns, in which a set that is not sure is broken."""
    for index, child in enumerate(part.children):
        if child.mask & row == row:
            before = _plain_blocks(part.children[:index])
            after = _plain_blocks(part.children[index + 1:])
            return _joined([*before, broken_layout(child, row), *after])
    blocks = _plain_blocks(_spread(part, row))
    # If every block is touched, one of them is not full. It has a neighbour with columns of the
    # set, and its own columns of the set are away from this neighbour as it stands, or turned.
    for index in range(len(blocks)):
        order = _joined([*blocks[:index], blocks[index][::-1], *blocks[index + 1:]])
        if _is_broken(order, row):
            return order
    return _joined(blocks)


def _spread(part, row):
    """The children of a piece; if it is loose, those without columns of the set come second."""
    if part.word == "firm":
        return part.children
    touched = [child for child in part.children if child.mask & row]
    others = [child for child in part.children if child.mask & row == 0]
    return [*touched[:1], *others, *touched[1:]]


def _plain(part):
    """The layout in which all children stand as the form has them."""
    return numbers_in(part.mask) if part.word == "one" else _joined(_plain_blocks(part.children))


def _plain_blocks(parts):
    return [_plain(part) for part in parts]


def _joined(blocks):
    return [number for block in blocks for number in block]


def _is_broken(order, row):
    return count_runs([row >> number & 1 == 1 for number in order]) > 1
