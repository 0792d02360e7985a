import unittest

from helpers import TWELVE, check_raises, small_tables
from unbrokenrows.errors import BadOrder, BadText
from unbrokenrows.tables import Table
from unbrokenrows.tabletexts import grid, read_table, table_text


class GridTest(unittest.TestCase):
    def test_example(self):
        found = grid(Table(["a", "bcd", "e"], [["a", "e"]]), ["e", "bcd", "a"])
        self.assertEqual(found, "e   bcd a  \nx   .   x     2")

    def test_sign_by_sign(self):
        table = Table(["a", "bb", "c", "d"], [["a", "c"], [], ["a", "bb", "c", "d"], ["d", "bb"]])
        self.assertEqual(grid(table, ("c", "a", "d", "bb")).split("\n"), [
            "c  a  d  bb",
            "x  x  .  .    1",
            ".  .  .  .    0",
            "x  x  x  x    1",
            ".  .  x  x    1",
        ])
        self.assertEqual(grid(table, ["a", "bb", "c", "d"]).split("\n")[1:2], ["x  .  x  .    2"])

    def test_names_of_one_letter(self):
        self.assertEqual(grid(Table(["a", "b"], [["b"]]), ["b", "a"]), "b a\nx .   1")

    def test_without_columns_or_rows(self):
        self.assertEqual(grid(Table([]), []), "")
        self.assertEqual(grid(Table([], [[], []]), []), "\n   0\n   0")
        self.assertEqual(grid(Table(["a", "bc"]), ["bc", "a"]), "bc a ")

    def test_many_runs(self):
        table = Table(TWELVE, [TWELVE[::2]])
        self.assertEqual(grid(table, TWELVE), "a b c d e f g h i j k l\nx . x . x . x . x . x .   6")

    def test_bad_order(self):
        table = Table(["a", "b"], [["a"]])
        for order, index in [([], 0), (["a"], 1), (["b", "b"], 1), (["a", "b", "a"], 2), (["a", "c"], 1)]:
            check_raises(self, BadOrder, {"index": index}, grid, table, order)


class TableTextTest(unittest.TestCase):
    def wrong(self, line, text):
        check_raises(self, BadText, {"line": line}, read_table, text)

    def test_example(self):
        self.wrong(1, "columns a b\nrow b b")

    def test_text(self):
        table = Table(["b", "a", "c"], [["a", "b"], [], ["c"]])
        self.assertEqual(table_text(table), "columns b a c\nrow b a\nrow\nrow c")
        self.assertEqual(table_text(Table([])), "columns")
        self.assertEqual(table_text(Table([], [[]])), "columns\nrow")

    def test_there_and_back(self):
        for table in small_tables(4, 100) + [Table(TWELVE, [TWELVE] * 48), Table([]), Table([], [[]] * 3)]:
            self.assertEqual(read_table(table_text(table)), table)

    def test_any_sequence_in_a_row(self):
        table = read_table("columns b a c\nrow c a\nrow a b\nrow")
        self.assertEqual(table, Table(["b", "a", "c"], [["a", "c"], ["b", "a"], []]))

    def test_columns_called_like_the_words(self):
        table = read_table("columns columns row\nrow row\nrow row columns")
        self.assertEqual(table, Table(["columns", "row"], [["row"], ["columns", "row"]]))
        self.assertEqual(table_text(table), "columns columns row\nrow row\nrow columns row")

    def test_wrong_columns(self):
        for text in ["", "\n", "row", "column a", "columnsa", "Columns a", "columns  a", "columns a ", " columns a",
                     "columns ", "columns a a", "columns a b a", "columns A", "columns abcdefghi", "columns a1",
                     "columns " + " ".join(TWELVE + ["m"]), "columns a b  c\nrow x"]:
            self.wrong(0, text)
        self.assertEqual(len(read_table("columns " + " ".join(TWELVE)).columns), 12)

    def test_wrong_rows(self):
        for row in ["", " ", "rows a", "Row a", "row  a", "row a ", " row a", "row d", "row a a", "row a b a",
                    "row A", "columns a b", "a b", "row "]:
            self.wrong(2, "columns a b\nrow a\n" + row)
            self.wrong(1, "columns a b\n" + row + "\nrow a a")
        self.wrong(1, "columns a\n")
        self.wrong(2, "columns a\nrow a\n")
        self.wrong(1, "columns\nrow a")

    def test_most_rows(self):
        self.assertEqual(len(read_table("columns a" + "\nrow a" * 48)), 48)
        self.wrong(49, "columns a" + "\nrow a" * 49)
        self.wrong(49, "columns a" + "\nrow a" * 60)
        self.wrong(3, "columns a" + "\nrow a" * 2 + "\nrow b" + "\nrow a" * 60)


if __name__ == "__main__":
    unittest.main()
