"""Tables as texts: a picture, and lines that can be read back."""

from unbrokenrows.errors import BadText
from unbrokenrows.names import first_bad_name, first_stray
from unbrokenrows.orders import check_order, runs_of
from unbrokenrows.tables import Table


def grid(table, order):
    """A picture of the table in an order, with the number of runs behind each row."""
    check_order(table, order)
    width = max([len(name) for name in order], default=0)
    lines = [_filled(order, width)]
    for row in table.rows:
        signs = ["x" if name in row else "." for name in order]
        runs = str(runs_of(row, order)).rjust(4)
        lines.append(_filled(signs, width) + runs)
    return "\n".join(lines)


def _filled(words, width):
    return " ".join([word.ljust(width) for word in words])


def table_text(table):
    """The lines `columns NAME ..` and `row NAME ..` of a table."""
    lines = [" ".join(["columns", *table.columns])]
    for row in table.rows:
        lines.append(" ".join(["row", *row]))
    return "\n".join(lines)


def read_table(text):
    """The table that a text describes."""
    lines = [line.split(" ") for line in text.split("\n")]
    if not is_columns_line(lines[0]):
        raise BadText(0)
    columns = lines[0][1:]
    for number in range(1, len(lines)):
        if number > Table.MOST_ROWS or not _is_row_line(columns, lines[number]):
            raise BadText(number)
    return Table(columns, [words[1:] for words in lines[1:]])


def is_columns_line(words):
    """True if the words of a line are `columns` and at most 12 different names."""
    names = words[1:]
    return words[0] == "columns" and len(names) <= Table.MOST_COLUMNS and first_bad_name(names) is None


def _is_row_line(columns, words):
    return words[0] == "row" and first_stray(columns, words[1:]) is None
