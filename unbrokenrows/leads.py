"""Leads: the layouts of a part that keep told pairs. Columns are numbers here.

The two columns of a pair are in different children of the lowest piece that has both, and the pair
concerns the sequence of the children of this piece alone.
"""

from unbrokenrows.counting import Counted, first_layout, nth_layout
from unbrokenrows.narrowing import narrowed
from unbrokenrows.parts import pieces_of
from unbrokenrows.sequences import free_sequences


class Leads:
    """A part, the pairs, and the allowed sequences of each piece, by the set of its columns."""

    def __init__(self, part, told, pairs):
        self.part = part
        self.told = told
        self.pairs = pairs

    def plus(self, pairs):
        """The leads with these pairs too, None if no layout keeps them all."""
        told = {mask: self.told[mask] for mask in self.told}
        for one, other in pairs:
            piece, here, there = fork(self.part, one, other)
            sequences = told[piece.mask].plus(here, there)
            if sequences is None:
                return None
            told[piece.mask] = sequences
        return Leads(self.part, told, [*self.pairs, *pairs])

    def unbroken(self, row):
        """The leads whose layouts are those in which a set is unbroken, None if there are none."""
        part = narrowed(self.part, row)
        return None if part is None else leads_of(part, self.pairs)

    def is_before(self, one, other):
        """True if a column stands before another one in every layout."""
        piece, here, there = fork(self.part, one, other)
        return self.told[piece.mask].is_before(here, there)

    def first(self):
        """The least layout."""
        return first_layout(self.part, self.told)

    def counted(self):
        """The part with the numbers of its layouts."""
        return Counted(self.part, self.told)


def leads_of(part, pairs):
    """The leads of a part and of pairs, None if no layout keeps them all."""
    told = {piece.mask: free_sequences(piece) for piece in pieces_of(part)}
    return Leads(part, told, []).plus(pairs)


def fork(part, one, other):
    """The lowest piece that has two columns, and the numbers of its children that have them."""
    row = 1 << one | 1 << other
    inner = [child for child in part.children if child.mask & row == row]
    while inner:
        part = inner[0]
        inner = [child for child in part.children if child.mask & row == row]
    return part, child_with(part, one), child_with(part, other)


def child_with(piece, column):
    """The number of the child that has a column."""
    return [index for index, child in enumerate(piece.children) if child.mask >> column & 1][0]


def missing_layout(leads, fewer):
    """The least layout of the leads that `fewer`, with some of these layouts or None, does not have.

    None if there is none.
    """
    if fewer is None:
        return leads.first()
    every = leads.counted()
    some = fewer.counted()
    if every.ways == some.ways:
        return None
    # Up to the first layout that is missing both have the same numbers, and never again behind it.
    low = 0
    high = some.ways
    while low < high:
        middle = (low + high) // 2
        if nth_layout(every, middle) == nth_layout(some, middle):
            low = middle + 1
        else:
            high = middle
    return nth_layout(every, low)
