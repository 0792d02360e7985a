"""Trees: all layouts of a table at once."""

from unbrokenrows.counting import layout_number, nth_layout
from unbrokenrows.errors import BadForm, BadNumber, BadOrder, NoCommon, NoLayout, NotLayout, OtherColumns
from unbrokenrows.forms import form_text, is_form
from unbrokenrows.leads import leads_of
from unbrokenrows.narrowing import all_narrowed, first_too_many
from unbrokenrows.orders import check_order, order_fault, runs_of
from unbrokenrows.parts import all_loose, form_of, is_sure_mask, mask_of, named, names_in, numbers_in
from unbrokenrows.parts import at_most_one, part_of, pieces_of, sure_masks, telling_masks, trimmed
from unbrokenrows.tables import check_columns, check_known


class Tree:
    """The layouts of a normal form for columns in a given order."""

    def __init__(self, columns, part):
        self.columns = tuple(columns)
        self.form = form_of(part, self.columns)
        self._part = part

    @staticmethod
    def of(table):
        """The tree of all layouts of a table."""
        rows = [mask_of(row, table.columns) for row in table.rows]
        loose = all_loose(len(table.columns))
        number = first_too_many(loose, rows)
        if number is not None:
            raise NoLayout(number)
        return Tree(table.columns, all_narrowed(loose, rows))

    @staticmethod
    def made(columns, form):
        """The tree with the layouts of a form, normal or not."""
        check_columns(columns)
        if not is_form(form, columns):
            raise BadForm("not a form of these columns")
        return Tree(columns, part_of(form, list(columns)))

    @staticmethod
    def holding(columns, *orders):
        """The tree in which those sets are sure that are unbroken in all of these orders."""
        check_columns(columns)
        if len(orders) == 0:
            raise BadNumber(0)
        for order in orders:
            index = order_fault(columns, order)
            if index is not None:
                raise BadOrder(index)
        stretches = _stretches(orders[0])
        held = [names for names in stretches if all([runs_of(names, order) == 1 for order in orders])]
        rows = [mask_of(names, columns) for names in held]
        return Tree(columns, all_narrowed(all_loose(len(columns)), rows))

    def count(self):
        """The number of layouts."""
        return self._counted().ways

    def first(self):
        """The least layout."""
        return named(leads_of(self._part, []).first(), self.columns)

    def kth(self, number):
        """The layout with this number."""
        counted = self._counted()
        if not 0 <= number < counted.ways:
            raise BadNumber(number)
        return named(nth_layout(counted, number), self.columns)

    def rank(self, order):
        """The number of a layout."""
        check_order(self, order)
        if order not in self:
            raise NotLayout("the order is not a layout of the tree")
        return layout_number(self._counted(), [self.columns.index(name) for name in order])

    def layouts(self):
        """All layouts in ascending order, one by one."""
        counted = self._counted()
        number = 0
        while number < counted.ways:
            yield named(nth_layout(counted, number), self.columns)
            number += 1

    def pieces(self):
        """The word and the sets of the children of each piece."""
        return [self._piece(piece) for piece in pieces_of(self._part)]

    def lowest(self, names):
        """The number of the last piece that has all of these columns."""
        row = self._row(names)
        if at_most_one(row):
            raise BadNumber(len(numbers_in(row)))
        pieces = pieces_of(self._part)
        return [number for number, piece in enumerate(pieces) if piece.mask & row == row][-1]

    def is_sure(self, names):
        """True if this set is unbroken in every layout."""
        return is_sure_mask(self._part, self._row(names))

    def sure_sets(self):
        """All sure sets with at least two columns, small ones first."""
        found = [numbers_in(mask) for mask in sure_masks(self._part)]
        ordered = sorted([(len(numbers), numbers) for numbers in found])
        return [tuple(named(numbers, self.columns)) for _, numbers in ordered]

    def telling_rows(self):
        """Sets of columns that have, as rows of a table, this tree."""
        return [names_in(mask, self.columns) for mask in telling_masks(self._part)]

    def only(self, names):
        """The tree of the orders that the layouts leave of these columns."""
        row = self._row(names)
        columns = names_in(row, self.columns)
        return Tree(columns, part_of(form_of(trimmed(self._part, row), self.columns), columns))

    def within(self, other):
        """True if each layout of this tree is a layout of the other one."""
        self._check_same(other)
        return all([self.is_sure(names) for names in other.telling_rows()])

    def _counted(self):
        return leads_of(self._part, []).counted()

    def _row(self, names):
        check_known(self.columns, names)
        return mask_of(names, self.columns)

    def _piece(self, piece):
        return piece.word, tuple([names_in(child.mask, self.columns) for child in piece.children])

    def _check_same(self, other):
        if self.columns != other.columns:
            raise OtherColumns("the trees have other columns")

    def __and__(self, other):
        self._check_same(other)
        part = all_narrowed(self._part, telling_masks(other._part))
        if part is None:
            raise NoCommon("the trees have no layout in common")
        return Tree(self.columns, part)

    def __or__(self, other):
        self._check_same(other)
        common = [mask for mask in sure_masks(self._part) if is_sure_mask(other._part, mask)]
        return Tree(self.columns, all_narrowed(all_loose(len(self.columns)), common))

    def __contains__(self, order):
        if order_fault(self.columns, order) is not None:
            return False
        return all([runs_of(names, order) == 1 for names in self.telling_rows()])

    def __len__(self):
        return len(self.columns)

    def __str__(self):
        return str(form_text(self.form))

    def __eq__(self, other):
        return isinstance(other, Tree) and self.columns == other.columns and self.form == other.form


def _stretches(order):
    ends = range(len(order) + 1)
    return [order[low:high] for low in ends for high in ends if high - low > 1]
