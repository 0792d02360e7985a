"""Kept layouts: the layouts of a table that keep told orders of two columns."""

from unbrokenrows.clashes import find_clash, find_reason
from unbrokenrows.counting import layout_number, nth_layout
from unbrokenrows.errors import BadNumber, BadPair, Clash, NotBefore, NotLayout, OtherColumns
from unbrokenrows.leads import leads_of, missing_layout
from unbrokenrows.leaving import left_out
from unbrokenrows.names import first_stray
from unbrokenrows.orders import check_order
from unbrokenrows.parts import mask_of, named, names_in, part_of
from unbrokenrows.tables import check_known, two_columns
from unbrokenrows.trees import Tree

MOST_PAIRS = 200


def check_pairs(table, pairs):
    """Raise BadPair unless these can be the told pairs of a table."""
    if len(pairs) > MOST_PAIRS:
        raise BadPair(MOST_PAIRS)
    for index, pair in enumerate(pairs):
        if len(pair) != 2 or first_stray(table.columns, pair) is not None:
            raise BadPair(index)


def numbered(columns, pairs):
    """The pairs with the numbers of their columns."""
    return [(columns.index(one), columns.index(other)) for one, other in pairs]


def kept_leads(tree, pairs):
    """The leads of a tree and of any number of pairs. Raises Clash."""
    part = part_of(tree.form, tree.columns)
    numbers = numbered(tree.columns, pairs)
    leads = leads_of(part, numbers)
    if leads is None:
        kind, masks, steps = find_clash(part, numbers)
        raise Clash(kind, _blocks(masks, tree.columns), _told(steps, tree.columns))
    return leads


def _blocks(masks, columns):
    return tuple([names_in(mask, columns) for mask in masks])


def _told(steps, columns):
    return tuple([(columns[one], columns[other]) for one, other in steps])


class Reason:
    """Why a column stands before another one in every kept layout."""

    def __init__(self, kind, blocks, pairs):
        self.kind = kind
        self.blocks = blocks
        self.pairs = pairs


class Kept:
    """The layouts of a table in which the first column of each told pair stands before the second."""

    def __init__(self, table, pairs=()):
        check_pairs(table, pairs)
        self.table = table
        self.pairs = tuple([tuple(pair) for pair in pairs])
        self.tree = Tree.of(table)
        self.leads = kept_leads(self.tree, self.pairs)
        self._numbering = None

    def count(self):
        """The number of kept layouts."""
        return self._counted().ways

    def first(self):
        """The least kept layout."""
        return named(self.leads.first(), self.table.columns)

    def kth(self, number):
        """The kept layout with this number."""
        if not 0 <= number < self.count():
            raise BadNumber(number)
        return named(nth_layout(self._counted(), number), self.table.columns)

    def rank(self, order):
        """The number of a kept layout."""
        check_order(self.table, order)
        if order not in self:
            raise NotLayout("the order is not a kept layout")
        return layout_number(self._counted(), [self.table.columns.index(name) for name in order])

    def kept_layouts(self):
        """All kept layouts in ascending order, one by one."""
        number = 0
        while number < self.count():
            yield self.kth(number)
            number += 1

    def is_before(self, a, b):
        """True if a stands before b in every kept layout."""
        one, other = two_columns(self.table.columns, a, b)
        return self.leads.is_before(one, other)

    def sure_pairs(self):
        """All pairs whose first column stands before the second one in every kept layout."""
        columns = self.table.columns
        return [(a, b) for a in columns for b in columns if a != b and self.is_before(a, b)]

    def why(self, a, b):
        """Some reason why a stands before b in every kept layout."""
        columns = self.table.columns
        one, other = two_columns(columns, a, b)
        if not self.leads.is_before(one, other):
            raise NotBefore(named(self.leads.plus([(other, one)]).first(), columns))
        kind, masks, steps = find_reason(self.leads.part, self.leads.pairs, one, other)
        return Reason(kind, _blocks(masks, columns), _told(steps, columns))

    def is_sure(self, names):
        """True if this set is unbroken in every kept layout."""
        check_known(self.table.columns, names)
        fewer = self.leads.unbroken(mask_of(names, self.table.columns))
        return fewer is not None and fewer.counted().ways == self.count()

    def plus(self, *pairs):
        """The same table with these pairs after the others."""
        return Kept(self.table, (*self.pairs, *pairs))

    def parting(self, other):
        """Some kept layout that is not a kept layout of the other object, or None."""
        columns = self.table.columns
        if columns != other.table.columns:
            raise OtherColumns("the tables have other columns")
        for one, later in other.leads.pairs:
            if not self.leads.is_before(one, later):
                return named(self.leads.plus([(later, one)]).first(), columns)
        for names in other.tree.telling_rows():
            order = missing_layout(self.leads, self.leads.unbroken(mask_of(names, columns)))
            if order is not None:
                return named(order, columns)
        return None

    def needless_pairs(self):
        """The numbers of the pairs without which the kept layouts are the same."""
        return [number for number in range(len(self.pairs)) if self._is_needless(number)]

    def _is_needless(self, number):
        one, other = self.leads.pairs[number]
        rest = [*self.leads.pairs[:number], *self.leads.pairs[number + 1:]]
        return leads_of(self.leads.part, rest).is_before(one, other)

    # Counting takes some time, and not every call needs it.
    def _counted(self):
        if self._numbering is None:
            self._numbering = self.leads.counted()
        return self._numbering

    def __contains__(self, order):
        return order in self.tree and all([_stand_so(order, one, other) for one, other in self.pairs])


# Without `index` of the list: an operator calls nothing that it is passed, and errors have an `index` too.
def _stand_so(order, one, other):
    return [name for name in order if name in (one, other)] == [one, other]


def fewest_out(table, pairs):
    """The numbers of as few told pairs as possible that can be left out so that a kept layout exists."""
    check_pairs(table, pairs)
    tree = Tree.of(table)
    return left_out(part_of(tree.form, tree.columns), numbered(tree.columns, pairs))
