import unittest

from helpers import TWELVE, check_raises, small_tables
from unbrokenrows.errors import BadOrder, BadTable, UnknownColumn, UnknownRow
from unbrokenrows.tables import Table

NO_NAMES = ["", "abcdefghi", "A", "a1", "a b", "a-b", " a", "a ", "_", "aB"]


def told(part, index):
    return {"part": part, "index": index}


def content(table):
    return table.columns, table.rows


class TableTest(unittest.TestCase):
    def bad(self, part, index, columns, rows=()):
        check_raises(self, BadTable, told(part, index), Table, columns, rows)

    def test_example(self):
        table = Table(["a", "b", "c"], [["b", "a"], []])
        found = [table.rows, (~table).rows, table.turned("a").rows, table.only(["c", "b"]).rows]
        self.assertEqual(found, [
            (("a", "b"), ()), (("c",), ("a", "b", "c")), (("c",), ()), (("b",), ())])

    def test_class_values(self):
        self.assertEqual((Table.MOST_COLUMNS, Table.MOST_ROWS), (12, 48))
        self.assertEqual((Table([]).MOST_COLUMNS, Table([]).MOST_ROWS), (12, 48))

    def test_columns_and_rows(self):
        table = Table(["c", "a", "b"], [["a", "b", "c"], (), ["b", "c"], ["c", "b"], ("a",)])
        self.assertEqual(table.columns, ("c", "a", "b"))
        self.assertEqual(table.rows, (("c", "a", "b"), (), ("c", "b"), ("c", "b"), ("a",)))
        self.assertEqual(content(Table(())), ((), ()))
        self.assertEqual(content(Table([], [[], []])), ((), ((), ())))
        self.assertEqual(content(Table(("abcdefgh",))), (("abcdefgh",), ()))

    def test_most_columns_and_rows(self):
        table = Table(TWELVE, [TWELVE] * 48)
        self.assertEqual((len(table.columns), len(table)), (12, 48))
        self.bad("columns", 0, TWELVE + ["m"])
        self.bad("rows", 0, TWELVE, [[]] * 49)

    def test_bad_columns(self):
        for name in NO_NAMES:
            self.bad("column", 1, ["a", name, "c"])
            self.bad("column", 0, [name, name])
        self.bad("column", 2, ["a", "b", "a", "b"])
        self.bad("column", 11, TWELVE[:11] + ["A"])

    def test_bad_rows(self):
        for row in [["d"], ["a", "d"], ["a", "a"], ["a", "b", "a"], [""], ["A"]]:
            self.bad("row", 1, ["a", "b", "c"], [["a"], row, ["d"]])
        self.bad("row", 0, [], [["a"]])

    def test_the_first_failing_check_raises(self):
        self.bad("columns", 0, ["A"] * 13, [["d"]] * 49)
        self.bad("column", 0, ["A", "a", "a"], [["d"]] * 49)
        self.bad("column", 2, ["a", "b", "a", "A"], [["d"]])
        self.bad("rows", 0, ["a"], [["d"]] * 49)
        self.bad("row", 1, ["a"], [["a"], ["a", "a"], ["d"]])

    def test_empty(self):
        self.assertEqual(content(Table.empty("b", "a")), (("b", "a"), ()))
        self.assertEqual(content(Table.empty()), ((), ()))
        self.assertEqual(content(Table.empty("a")), (("a",), ()))
        self.assertEqual(len(Table.empty(*TWELVE).columns), 12)
        check_raises(self, BadTable, told("column", 1), Table.empty, "a", "a")
        check_raises(self, BadTable, told("column", 2), Table.empty, "a", "b", "a")
        check_raises(self, BadTable, told("column", 0), Table.empty, "")
        check_raises(self, BadTable, told("columns", 0), Table.empty, *TWELVE, "a")

    def test_arguments_are_copied(self):
        columns, rows = ["a", "b"], [["b", "a"], ["a"]]
        table = Table(columns, rows)
        self.assertEqual((columns, rows), (["a", "b"], [["b", "a"], ["a"]]))
        columns.append("c")
        rows[1].append("b")
        rows.append([])
        self.assertEqual(content(table), (("a", "b"), (("a", "b"), ("a",))))

    def test_reading(self):
        table = Table(["a", "b", "c"], [["b", "a"], [], ["c", "b"]])
        self.assertEqual(len(table), 3)
        self.assertEqual(list(table), [("a", "b"), (), ("b", "c")])
        self.assertEqual([table[0], table[1], table[2]], [("a", "b"), (), ("b", "c")])
        for number in (-1, 3, -3, 10 ** 9, -10 ** 9):
            check_raises(self, UnknownRow, {"number": number}, lambda at: table[at], number)
        self.assertEqual(list(Table(["a"])), [])
        check_raises(self, UnknownRow, {"number": 0}, lambda at: Table(["a"])[at], 0)

    def test_equality(self):
        table = Table(["a", "b"], [["a", "b"], []])
        self.assertTrue(table == Table(("a", "b"), (("b", "a"), ())))
        for other in [Table(["b", "a"], [["a", "b"], []]), Table(["a", "b"], [[], ["a", "b"]]),
                      Table(["a", "b"], [["a", "b"]]), Table(["a", "b", "c"], [["a", "b"], []])]:
            self.assertFalse(table == other)
            self.assertTrue(table != other)

    def test_questions(self):
        table = Table(["b", "a", "c"], [["b", "a"], [], ["c", "b"]])
        self.assertEqual([table.has(name) for name in ["a", "b", "d", "", "ab"]], [True, True, False, False, False])
        self.assertEqual([table.column_number(name) for name in "abc"], [1, 0, 2])
        self.assertEqual([table.rows_with(name) for name in "abc"], [(0,), (0, 2), (2,)])
        self.assertEqual([table.marks(), Table([]).marks(), (~table).marks()], [4, 0, 5])
        for call in (table.column_number, table.rows_with):
            check_raises(self, UnknownColumn, {"name": "d"}, call, "d")
            check_raises(self, UnknownColumn, {"name": ""}, call, "")
        self.assertEqual(Table(["a", "b"], [["a"]]).rows_with("b"), ())


class ChangedTableTest(unittest.TestCase):
    def setUp(self):
        self.table = Table(["a", "b", "c"], [["b", "a"], [], ["c", "b"]])
        self.before = content(self.table)

    def tearDown(self):
        self.assertEqual(content(self.table), self.before)

    def test_plus(self):
        row = ["c", "a"]
        table = self.table.plus(row, row, ())
        self.assertEqual(content(table), (("a", "b", "c"), (("a", "b"), (), ("b", "c"), ("a", "c"), ("a", "c"), ())))
        row.append("b")
        self.assertEqual(table[3], ("a", "c"))
        self.assertIsNot(self.table.plus(), self.table)
        self.assertEqual(self.table.plus(), self.table)
        self.assertEqual(len(self.table.plus(*[[]] * 45)), 48)
        check_raises(self, BadTable, told("rows", 0), self.table.plus, *[["d"]] * 46)
        check_raises(self, BadTable, told("row", 4), self.table.plus, ["a"], ["b", "b"], ["d"])

    def test_without(self):
        self.assertEqual(self.table.without(1).rows, (("a", "b"), ("b", "c")))
        self.assertEqual(self.table.without(2, 0, 2).rows, ((),))
        self.assertEqual(content(self.table.without(0, 1, 2)), (("a", "b", "c"), ()))
        self.assertEqual(self.table.without(), self.table)
        self.assertIsNot(self.table.without(), self.table)
        check_raises(self, UnknownRow, {"number": 3}, self.table.without, 0, 3, -1)
        check_raises(self, UnknownRow, {"number": -1}, self.table.without, -1, 3)

    def test_only(self):
        self.assertEqual(content(self.table.only(["c", "a", "c"])), (("a", "c"), (("a",), (), ("c",))))
        self.assertEqual(content(self.table.only([])), ((), ((), (), ())))
        self.assertEqual(self.table.only(("a", "b", "c")), self.table)
        check_raises(self, UnknownColumn, {"name": "d"}, self.table.only, ["a", "d", "e"])
        check_raises(self, UnknownColumn, {"name": ""}, self.table.only, [""])

    def test_turned(self):
        self.assertEqual(content(self.table.turned("b")), (("a", "b", "c"), (("c",), (), ("a",))))
        self.assertEqual(self.table.turned("c").rows, (("a", "b"), (), ("a",)))
        check_raises(self, UnknownColumn, {"name": "d"}, self.table.turned, "d")

    def test_inverted(self):
        self.assertEqual(content(~self.table), (("a", "b", "c"), (("c",), ("a", "b", "c"), ("a",))))
        for table in small_tables(1, 50):
            self.assertEqual(~~table, table)

    def test_joined(self):
        other = Table(["d", "c", "a"], [["c", "d"], ["a", "c", "d"]])
        both = self.table | other
        self.assertEqual(both.columns, ("a", "b", "c", "d"))
        self.assertEqual(both.rows, (("a", "b"), (), ("b", "c"), ("c", "d"), ("a", "c", "d")))
        self.assertEqual((other | self.table).columns, ("d", "c", "a", "b"))
        self.assertEqual(content(other), (("d", "c", "a"), (("d", "c"), ("d", "c", "a"))))
        self.assertEqual(self.table | Table([]), self.table)
        self.assertEqual(Table([]) | self.table, self.table)

    def test_joined_too_much(self):
        wide = Table(TWELVE[3:], [[]] * 46)
        check_raises(self, BadTable, told("rows", 0), lambda: self.table | wide)
        self.assertEqual(len(self.table | Table(TWELVE[3:], [[]] * 45)), 48)
        wider = Table(TWELVE[3:] + ["m"], [[]] * 46)
        check_raises(self, BadTable, told("columns", 0), lambda: self.table | wider)

    def test_reordered(self):
        self.assertEqual(content(self.table.reordered(["c", "a", "b"])), (
            ("c", "a", "b"), (("a", "b"), (), ("c", "b"))))
        for order, index in [([], 0), (["a"], 1), (["a", "a", "b"], 1), (["a", "b", "c", "d"], 3), (["d"], 0)]:
            check_raises(self, BadOrder, {"index": index}, self.table.reordered, order)

    def test_renamed(self):
        self.assertEqual(content(self.table.renamed(b="z")), (("a", "z", "c"), (("a", "z"), (), ("z", "c"))))
        self.assertEqual(content(self.table.renamed(a="b", b="a")), (
            ("b", "a", "c"), (("b", "a"), (), ("a", "c"))))
        self.assertEqual(content(self.table.renamed(a="b", b="c", c="a")), (
            ("b", "c", "a"), (("b", "c"), (), ("c", "a"))))
        self.assertEqual(self.table.renamed(a="a"), self.table)
        self.assertEqual(self.table.renamed(), self.table)
        self.assertEqual(Table(["names", "name"], [["name"]]).renamed(names="a", name="b").rows, (("b",),))

    def test_renamed_wrongly(self):
        check_raises(self, UnknownColumn, {"name": "d"}, self.table.renamed, a="A", d="x", e="y")
        check_raises(self, UnknownColumn, {"name": "e"}, self.table.renamed, e="x", d="y")
        check_raises(self, BadTable, told("column", 1), self.table.renamed, b="a")
        check_raises(self, BadTable, told("column", 1), self.table.renamed, a="b")
        check_raises(self, BadTable, told("column", 2), self.table.renamed, c="a b", a="x")
        for name in NO_NAMES:
            check_raises(self, BadTable, told("column", 0), self.table.renamed, a=name)


if __name__ == "__main__":
    unittest.main()
