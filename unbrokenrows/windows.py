"""Told windows: from which year to which year the columns of a table can be dated."""

from unbrokenrows.errors import BadWindow, NoDates
from unbrokenrows.orders import check_order

MOST_YEAR = 1000000


class Windows:
    """A table with told windows: a column, its least and its greatest year."""

    def __init__(self, table, told):
        seen = []
        for index, (name, low, high) in enumerate(told):
            if not table.has(name) or name in seen or not -MOST_YEAR <= low <= high <= MOST_YEAR:
                raise BadWindow(index)
            seen.append(name)
        self.table = table
        self.told = tuple([tuple(window) for window in told])

    def forced(self):
        """The pairs of columns whose windows leave the first one no place behind the second one."""
        columns = self.table.columns
        pairs = [(columns.index(a), columns.index(b)) for a, _, high in self.told
                 for b, low, _ in self.told if high < low]
        return [(columns[one], columns[other]) for one, other in sorted(pairs)]

    def keeps(self, order, years):
        """True if the years never decrease and each column with a window has a year in it."""
        check_order(self.table, order)
        if len(years) != len(order) or any([years[at] < years[at - 1] for at in range(1, len(years))]):
            return False
        return all([low <= years[order.index(name)] <= high for name, low, high in self.told])

    def dates(self, order):
        """The least years that keep all windows."""
        check_order(self.table, order)
        for a, b in self.forced():
            if order.index(b) < order.index(a):
                raise NoDates(b, a)
        lows = {name: low for name, low, _ in self.told}
        year = min(list(lows.values()), default=0)
        years = []
        for name in order:
            year = max(year, lows.get(name, year))
            years.append(year)
        return years
