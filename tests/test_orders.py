import unittest
from itertools import permutations, product

from helpers import TWELVE, check_raises, in_one_piece, layouts_of, small_tables
from unbrokenrows.errors import BadOrder, UnknownRow
from unbrokenrows.orders import broken, check_order, extent, gap_rows, is_layout, run_count
from unbrokenrows.tables import Table

TABLE = Table(["a", "b", "c", "d"], [["a", "b"], ["b", "c"], [], ["a", "b", "d"], ["c"]])
WRONG = [
    ([], 0), (["a"], 1), (["a", "b", "c"], 3), (["a", "b", "c", "a"], 3), (["a", "a", "b", "c", "d"], 1),
    (["a", "b", "c", "d", "a"], 4), (["a", "b", "c", "d", "e"], 4), (["e", "a", "a"], 0), (["a", "b", "e"], 2),
    (["", "b", "c", "d"], 0), (["a", "b", "c", "ab"], 3), (["d", "c", "c"], 2), (["d", "c", "x", "x"], 2),
]


def runs_by_places(row, order):
    places = [place for place, name in enumerate(order) if name in row]
    return len([place for place in places if place - 1 not in places])


class OrderTest(unittest.TestCase):
    def test_example(self):
        table = Table(["a", "b", "c", "d"], [["a", "b"], ["b", "c"]])
        order = ["b", "a", "d", "c"]
        self.assertEqual([broken(table, order), extent(table, order, 1), gap_rows(table, ["d", "a", "b", "c"])], [
            [1], (0, 3), [(), (0,), (1,)]])

    def test_check_order(self):
        self.assertIsNone(check_order(TABLE, ["d", "a", "c", "b"]))
        self.assertIsNone(check_order(TABLE, ("a", "b", "c", "d")))
        self.assertIsNone(check_order(Table([]), []))
        for order, index in WRONG:
            check_raises(self, BadOrder, {"index": index}, check_order, TABLE, order)
            check_raises(self, BadOrder, {"index": index}, check_order, TABLE, tuple(order))
        check_raises(self, BadOrder, {"index": 0}, check_order, Table([]), ["a"])

    def test_least_wrong_index_of_all_short_lists(self):
        table = Table(["a", "b"])
        for length in range(4):
            for order in product("abx", repeat=length):
                wrong = [at for at in range(length) if order[at] == "x" or order[at] in order[:at]]
                wrong += list(range(length, 2))
                if wrong:
                    check_raises(self, BadOrder, {"index": min(wrong)}, check_order, table, order)
                else:
                    self.assertIsNone(check_order(table, order))

    def test_bad_order_comes_first(self):
        for order, index in WRONG:
            for number in (0, 7, -1):
                check_raises(self, BadOrder, {"index": index}, run_count, TABLE, order, number)
                check_raises(self, BadOrder, {"index": index}, extent, TABLE, order, number)
            check_raises(self, BadOrder, {"index": index}, broken, TABLE, order)
            check_raises(self, BadOrder, {"index": index}, gap_rows, TABLE, order)
            self.assertIs(is_layout(TABLE, order), False)

    def test_unknown_row(self):
        for number in (-1, 5, 10 ** 9):
            check_raises(self, UnknownRow, {"number": number}, run_count, TABLE, ["a", "b", "c", "d"], number)
            check_raises(self, UnknownRow, {"number": number}, extent, TABLE, ["a", "b", "c", "d"], number)

    def test_runs(self):
        order = ["a", "c", "b", "d"]
        self.assertEqual([run_count(TABLE, order, number) for number in range(5)], [2, 1, 0, 2, 1])
        self.assertEqual(broken(TABLE, order), [0, 3])
        self.assertEqual(run_count(Table(TWELVE, [TWELVE[::2]]), TWELVE, 0), 6)

    def test_extent(self):
        order = ["a", "c", "b", "d"]
        found = [extent(TABLE, order, number) for number in range(5)]
        self.assertEqual(found, [(0, 2), (1, 2), None, (0, 3), (1, 1)])

    def test_against_places(self):
        for table in small_tables(2, 60):
            for order in permutations(table.columns):
                runs = [run_count(table, order, number) for number in range(len(table))]
                self.assertEqual(runs, [runs_by_places(row, order) for row in table])
                wrong = [number for number, row in enumerate(table) if not in_one_piece(row, order)]
                self.assertEqual(broken(table, order), wrong)
                self.assertIs(is_layout(table, order), not wrong)
                self.assertIs(is_layout(table, list(order)[::-1]), not wrong)

    def test_gap_rows(self):
        self.assertEqual(gap_rows(Table([], [[]]), []), [])
        self.assertEqual(gap_rows(Table(["a"], [["a"]]), ["a"]), [])
        self.assertEqual(gap_rows(TABLE, ("a", "d", "b", "c")), [(1,), (3,), (3,)])
        self.assertEqual(gap_rows(TABLE, ["a", "b", "c", "d"]), [(), (0, 3), (1,)])

    def test_gap_rows_are_the_same_for_all_layouts(self):
        for table in small_tables(3, 200):
            found = [gap_rows(table, order) for order in layouts_of(table)]
            self.assertEqual(found, found[:1] * len(found))

    def test_arguments_stay(self):
        order = ["a", "c", "b", "d"]
        for call in (broken, is_layout, gap_rows, check_order):
            call(TABLE, order)
        run_count(TABLE, order, 0)
        extent(TABLE, order, 0)
        self.assertEqual(order, ["a", "c", "b", "d"])
        self.assertEqual(TABLE.rows, (("a", "b"), ("b", "c"), (), ("a", "b", "d"), ("c",)))

    def test_tuples_stand_for_lists(self):
        order = ["c", "b", "d", "a"]
        for call in (broken, is_layout, gap_rows):
            self.assertEqual(call(TABLE, order), call(TABLE, tuple(order)))
        for number in range(5):
            self.assertEqual(run_count(TABLE, order, number), run_count(TABLE, tuple(order), number))
            self.assertEqual(extent(TABLE, order, number), extent(TABLE, tuple(order), number))


if __name__ == "__main__":
    unittest.main()
