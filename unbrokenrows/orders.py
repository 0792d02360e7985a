"""Orders of the columns of a table, and how its rows lie in them."""

from unbrokenrows.errors import BadOrder
from unbrokenrows.names import first_stray


def order_fault(columns, order):
    """The least index at which a list is wrong as an order of the columns, or None."""
    index = first_stray(columns, order)
    if index is None and len(order) < len(columns):
        return len(order)
    return index


def count_runs(flags):
    """The number of stretches of true flags."""
    return len([at for at, flag in enumerate(flags) if flag and not (at > 0 and flags[at - 1])])


def runs_of(row, order):
    """The number of runs of a row, given as its columns, in an order."""
    return count_runs([name in row for name in order])


def check_order(table, order):
    """Raise BadOrder unless the list is an order of the columns."""
    index = order_fault(table.columns, order)
    if index is not None:
        raise BadOrder(index)


def run_count(table, order, number):
    """The number of runs of a row."""
    check_order(table, order)
    return runs_of(table[number], order)


def broken(table, order):
    """The numbers of the rows that are not unbroken."""
    check_order(table, order)
    return [number for number, row in enumerate(table.rows) if runs_of(row, order) > 1]


def is_layout(table, order):
    """True if the list is a layout of the table."""
    return order_fault(table.columns, order) is None and len(broken(table, order)) == 0


def extent(table, order, number):
    """The least and the greatest place of the columns of a row, None for an empty row."""
    check_order(table, order)
    row = table[number]
    places = [place for place, name in enumerate(order) if name in row]
    return (places[0], places[-1]) if places else None


def gap_rows(table, order):
    """For each two neighbours the numbers of the rows that have both, sorted."""
    check_order(table, order)
    return sorted([_common_rows(table, order[at - 1], order[at]) for at in range(1, len(order))])


def _common_rows(table, one, other):
    return tuple([number for number, row in enumerate(table.rows) if one in row and other in row])
