"""Finding a small table, given as rows of numbers, again in rows and columns in another sequence."""


def matching(rows, masks, width):
    """How a table with these masks as rows becomes the one with these rows, None if it does not.

    Both have `width` columns, and the rows are different. Returns the numbers of the masks, in the
    sequence of the rows, and the numbers of the columns, in the sequence of the numbers in the rows.
    """
    wanted = [sum([1 << place for place in row]) for row in rows]
    if _sizes(wanted, width) != _sizes(masks, width):
        return None
    columns = _extended(wanted, masks, width, [])
    if columns is None:
        return None
    seen = [_seen(mask, columns) for mask in masks]
    return [seen.index(mask) for mask in wanted], columns


def _sizes(masks, width):
    return sorted([len([place for place in range(width) if mask >> place & 1]) for mask in masks])


def _extended(wanted, masks, width, chosen):
    """All columns in a fitting sequence that begins with the chosen ones, None if there is none."""
    if len(chosen) == width:
        return chosen
    for column in range(width):
        longer = [*chosen, column]
        if column not in chosen and _fits(wanted, masks, longer):
            columns = _extended(wanted, masks, width, longer)
            if columns is not None:
                return columns
    return None


def _fits(wanted, masks, chosen):
    """True if the rows are the same as far as the chosen columns tell."""
    low = (1 << len(chosen)) - 1
    return sorted([mask & low for mask in wanted]) == sorted([_seen(mask, chosen) for mask in masks])


def _seen(mask, chosen):
    return sum([1 << place for place, column in enumerate(chosen) if mask >> column & 1])
