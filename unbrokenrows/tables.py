"""Tables: columns, and rows with a mark in some of them."""

from unbrokenrows.errors import BadTable, SameColumn, UnknownColumn, UnknownRow
from unbrokenrows.names import first_bad_name, first_stray
from unbrokenrows.orders import check_order


def check_columns(columns):
    """Raise BadTable unless the list can be the columns of a table."""
    if len(columns) > Table.MOST_COLUMNS:
        raise BadTable("columns", 0)
    index = first_bad_name(columns)
    if index is not None:
        raise BadTable("column", index)


def check_known(columns, names):
    """Raise UnknownColumn for the first name that is not one of the columns."""
    for name in names:
        if name not in columns:
            raise UnknownColumn(name)


def check_different(columns, names):
    """Raise UnknownColumn for a name that is not a column, then SameColumn for one that stands twice."""
    check_known(columns, names)
    index = first_stray(columns, names)
    if index is not None:
        raise SameColumn(names[index])


def two_columns(columns, a, b):
    """The numbers of two columns. Raises UnknownColumn, then SameColumn."""
    check_different(columns, [a, b])
    return columns.index(a), columns.index(b)


def _check_rows(columns, rows):
    if len(rows) > Table.MOST_ROWS:
        raise BadTable("rows", 0)
    for index, row in enumerate(rows):
        if first_stray(columns, row) is not None:
            raise BadTable("row", index)


class Table:
    """At most 12 columns and at most 48 rows. Each row is a tuple of columns in their order."""

    MOST_COLUMNS = 12
    MOST_ROWS = 48

    def __init__(self, columns, rows=()):
        check_columns(columns)
        _check_rows(columns, rows)
        self.columns = tuple(columns)
        self.rows = tuple([self._in_order(row) for row in rows])

    def _in_order(self, names):
        return tuple([name for name in self.columns if name in names])

    def _inside_out(self, row):
        return [name for name in self.columns if name not in row]

    # The first name is a parameter of its own because L4 of LANGUAGE.md asks for a plain one.
    @staticmethod
    def empty(first=None, *others):
        """The table with the columns that are passed and without rows."""
        return Table(() if first is None else (first, *others))

    def has(self, name):
        """True if the name is a column."""
        return name in self.columns

    def column_number(self, name):
        """The number of a column."""
        check_known(self.columns, [name])
        return self.columns.index(name)

    def rows_with(self, name):
        """The numbers of the rows that have the column."""
        check_known(self.columns, [name])
        return tuple([number for number, row in enumerate(self.rows) if name in row])

    def marks(self):
        """The number of marks in all rows."""
        return sum([len(row) for row in self.rows])

    def plus(self, *rows):
        """The table with these rows after the others."""
        return Table(self.columns, (*self.rows, *rows))

    def without(self, *numbers):
        """The table without the rows of these numbers."""
        for number in numbers:
            if not 0 <= number < len(self.rows):
                raise UnknownRow(number)
        return Table(self.columns, [row for number, row in enumerate(self.rows) if number not in numbers])

    def only(self, names):
        """The table with these columns alone; all rows are kept."""
        check_known(self.columns, names)
        return Table(self._in_order(names), [[name for name in row if name in names] for row in self.rows])

    def turned(self, name):
        """The table with the rows that have this column turned inside out."""
        check_known(self.columns, [name])
        return Table(self.columns, [self._inside_out(row) if name in row else row for row in self.rows])

    def reordered(self, order):
        """The table with its columns in this order."""
        check_order(self, order)
        return Table(order, self.rows)

    def renamed(self, **names):
        """The table with a new name for each column that is a keyword."""
        check_known(self.columns, list(names))
        columns = [names.get(name, name) for name in self.columns]
        return Table(columns, [[names.get(name, name) for name in row] for row in self.rows])

    def __invert__(self):
        return Table(self.columns, [self._inside_out(row) for row in self.rows])

    def __or__(self, other):
        new = [name for name in other.columns if name not in self.columns]
        return Table([*self.columns, *new], [*self.rows, *other.rows])

    def __getitem__(self, at):
        if not 0 <= at < len(self.rows):
            raise UnknownRow(at)
        return self.rows[at]

    def __len__(self):
        return len(self.rows)

    def __iter__(self):
        return iter(self.rows)

    def __eq__(self, other):
        return isinstance(other, Table) and self.columns == other.columns and self.rows == other.rows
