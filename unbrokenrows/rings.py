"""Ring layouts: orders in which every row stands in one piece if they are read round.

A ring layout is cut at a column: the row with the column are turned inside out, the column is left
out, and what is left is a layout of the cut table.
"""

from unbrokenrows.errors import NoLayout, NoRing, NotLayout
from unbrokenrows.keeping import Kept
from unbrokenrows.orders import check_order, order_fault, runs_of
from unbrokenrows.patterns import find_pattern
from unbrokenrows.questions import Answer, Between
from unbrokenrows.rounds import Round
from unbrokenrows.tables import check_different, check_known
from unbrokenrows.trees import Tree


def is_ring_layout(table, order):
    """True if the list is a ring layout of the table."""
    if order_fault(table.columns, order) is not None:
        return False
    if tuple(order[:1]) != table.columns[:1]:
        return False
    return all([_is_unbroken_round(row, order) for row in table.rows])


# What is in one piece on the ring is so in the order as well, or its gap is.
def _is_unbroken_round(row, order):
    gap = [name for name in order if name not in row]
    return runs_of(row, order) <= 1 or runs_of(gap, order) <= 1


def cut_table(table, name):
    """The table whose layouts are the ring layouts, cut at a column."""
    turned = table.turned(name)
    return turned.only([column for column in table.columns if column != name])


def ring_pattern(table, name):
    """Some pattern that lies in the cut table at a column, None if the table has a ring layout."""
    return find_pattern(cut_table(table, name))


class Ring:
    """All ring layouts of a table at once: the first column, and behind it a layout of a tree."""

    def __init__(self, table, tree):
        self.columns = table.columns
        self.table = table
        self._tree = tree

    @staticmethod
    def of(table):
        """The ring of all ring layouts of a table."""
        cut = cut_table(table, table.columns[0]) if table.columns else table
        try:
            return Ring(table, Tree.of(cut))
        except NoLayout as error:
            raise NoRing(error.number) from None

    def count(self):
        """The number of ring layouts."""
        return self._tree.count()

    def first(self):
        """The least ring layout."""
        return [*self.columns[:1], *self._tree.first()]

    def kth(self, number):
        """The ring layout with this number."""
        return [*self.columns[:1], *self._tree.kth(number)]

    def rank(self, order):
        """The number of a ring layout."""
        check_order(self, order)
        if order not in self:
            raise NotLayout("the order is not a ring layout")
        return self._tree.rank(order[1:])

    def ring_layouts(self):
        """All ring layouts in ascending order, one by one."""
        for order in self._tree.layouts():
            yield [*self.columns[:1], *order]

    def cut(self, name):
        """The tree of the ring layouts, cut at a column."""
        return Tree.of(cut_table(self.table, name))

    def is_sure(self, names):
        """True if this set is unbroken on the ring in every ring layout."""
        check_known(self.columns, names)
        has_first = self.columns[:1] != () and self.columns[0] in names
        return self._tree.is_sure([name for name in self.columns if (name in names) != has_first])

    def __contains__(self, order):
        return is_ring_layout(self.table, order)

    def __eq__(self, other):
        return (isinstance(other, Ring) and self.columns == other.columns
                and self._tree.form == other._tree.form)


def split(ring, p, q, r, s):
    """Whether p and q split r and s in the ring layouts."""
    check_different(ring.columns, [p, q, r, s])
    # Cut at p, this asks whether q stands between r and s.
    question = Between(r, q, s)
    answer = question(Kept(cut_table(ring.table, p)))
    return Answer(_closed(ring, p, answer.yes), _closed(ring, p, answer.no))


def _closed(ring, name, order):
    """The ring layout that was cut at a column, None for None."""
    if order is None:
        return None
    first = ring.columns[0]
    return [first, *Round([name, *order]).cut(first)]
