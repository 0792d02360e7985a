import unittest
from random import Random

from helpers import TWELVE, check_raises, in_one_piece, layouts_of, small_tables, subsets, table_with_layout
from unbrokenrows.derivations import derive, follow, needless_rows, thinned
from unbrokenrows.errors import BadNumber, BadStep, NoLayout, NotSure, UnknownColumn
from unbrokenrows.tables import Table
from unbrokenrows.trees import Tree

TABLE = Table(["a", "b", "c", "d"], [["a", "b"], ["b", "c"], [], ["a", "b", "c"], ["d"]])
TRIANGLE = Table(["a", "b", "c"], [["a"], ["a", "b"], ["b", "c"], ["a", "c"]])


class FollowTest(unittest.TestCase):
    def bad(self, index, *steps):
        check_raises(self, BadStep, {"index": index}, follow, TABLE, list(steps))

    def test_example(self):
        table = Table(["a", "b", "c", "d"], [["a", "b"], ["b", "c"], ["a", "b", "c"]])
        steps = [("row", 0), ("row", 1), ("first", 0, 1), ("either", 0, 1)]
        self.assertEqual([follow(table, steps), needless_rows(table)], [
            [("a", "b"), ("b", "c"), ("a",), ("a", "b", "c")], [2]])

    def test_every_kind_of_step(self):
        steps = [("all",), ("one", "c"), ("row", 1), ("row", 0), ("both", 2, 3), ("either", 3, 2), ("first", 3, 2),
                 ("first", 2, 3), ("both", 0, 5), ("either", 4, 4), ("both", 1, 1), ("row", 4), ("either", 0, 11)]
        self.assertEqual(follow(TABLE, steps), [
            ("a", "b", "c", "d"), ("c",), ("b", "c"), ("a", "b"), ("b",), ("a", "b", "c"), ("a",), ("c",),
            ("a", "b", "c"), ("b",), ("c",), ("d",), ("a", "b", "c", "d")])
        self.assertEqual(follow(TABLE, tuple(steps)), follow(TABLE, steps))

    def test_sets_are_in_the_order_of_the_table(self):
        table = Table(["c", "b", "a"], [["a", "b"], ["b", "c"]])
        self.assertEqual(follow(table, [("row", 0), ("row", 1), ("either", 1, 0)]), [
            ("b", "a"), ("c", "b"), ("c", "b", "a")])

    def test_wrong_rows_and_columns(self):
        for number in (-1, 5, 2, 10 ** 9):
            self.bad(0, ("row", number))
            self.bad(1, ("row", 0), ("row", number), ("row", -1))
        for name in ("e", "", "ab", "A"):
            self.bad(1, ("one", "a"), ("one", name))
        check_raises(self, BadStep, {"index": 0}, follow, Table([], [[]]), [("all",)])
        check_raises(self, BadStep, {"index": 0}, follow, Table([], [[]]), [("row", 0)])

    def test_wrong_numbers_of_steps(self):
        for word in ("both", "either", "first"):
            self.bad(0, (word, 0, 0))
            for one, other in [(-1, 0), (0, -1), (2, 0), (0, 2), (1, 3), (-2, -2), (10 ** 9, 0)]:
                self.bad(2, ("row", 0), ("row", 1), (word, one, other))

    def test_wrong_sets(self):
        apart = [("one", "a"), ("one", "b"), ("row", 0)]
        for word in ("both", "either", "first"):
            self.bad(3, *apart, (word, 0, 1))
        self.bad(3, *apart, ("first", 2, 0))
        self.bad(3, *apart, ("first", 0, 2))
        self.bad(3, *apart, ("first", 2, 2))
        self.bad(4, *apart, ("row", 1), ("first", 2, 2), ("row", 9))

    def test_arguments_stay(self):
        steps = [("row", 0), ("row", 1), ("both", 0, 1)]
        follow(TABLE, steps).clear()
        self.assertEqual(steps, [("row", 0), ("row", 1), ("both", 0, 1)])


class DeriveTest(unittest.TestCase):
    def check_derivation(self, table, names):
        sets = follow(table, derive(table, names))
        self.assertEqual(sets[-1], tuple([name for name in table.columns if name in names]))
        self.assertEqual(len(set(sets)), len(sets))

    def check_not_sure(self, table, layouts, names):
        with self.assertRaises(NotSure) as caught:
            derive(table, names)
        self.assertIsInstance(caught.exception.order, list)
        self.assertIn(caught.exception.order, layouts)
        self.assertFalse(in_one_piece(names, caught.exception.order))

    def test_all_sets_of_small_tables(self):
        for table in small_tables(24, 300):
            layouts = layouts_of(table)
            for names in subsets(table.columns)[1:] if layouts else []:
                if all(in_one_piece(names, order) for order in layouts):
                    self.check_derivation(table, names[::-1] + names)
                else:
                    self.check_not_sure(table, layouts, names + names[:1])

    def test_all_sure_sets_of_large_tables(self):
        random = Random(25)
        for _ in range(20):
            table = table_with_layout(random, TWELVE, random.randint(3, 20))
            for names in Tree.of(table).sure_sets():
                self.check_derivation(table, names)
            for name in table.columns:
                self.check_derivation(table, [name])

    def test_sets_that_are_not_sure_in_large_tables(self):
        random = Random(26)
        for _ in range(40):
            table = table_with_layout(random, TWELVE, random.randint(0, 20))
            tree = Tree.of(table)
            for _ in range(20):
                names = random.sample(TWELVE, random.randint(2, 11))
                if not tree.is_sure(names):
                    with self.assertRaises(NotSure) as caught:
                        derive(table, names)
                    self.assertTrue(caught.exception.order in tree)
                    self.assertFalse(in_one_piece(names, caught.exception.order))

    def test_errors_in_their_order(self):
        check_raises(self, UnknownColumn, {"name": "x"}, derive, TRIANGLE, ["a", "x", "y"])
        check_raises(self, BadNumber, {"number": 0}, derive, TRIANGLE, [])
        check_raises(self, BadNumber, {"number": 0}, derive, Table([]), ())
        check_raises(self, UnknownColumn, {"name": "a"}, derive, Table([]), ["a"])
        check_raises(self, NoLayout, {"number": 3}, derive, TRIANGLE, ["a", "b"])
        check_raises(self, NoLayout, {"number": 3}, derive, TRIANGLE, ["a"])
        self.check_not_sure(TABLE, layouts_of(TABLE), ["a", "d"])
        self.check_not_sure(TABLE, layouts_of(TABLE), ["a", "c"])

    def test_arguments_stay(self):
        names = ["b", "a", "b"]
        derive(TABLE, names).clear()
        self.assertEqual(names, ["b", "a", "b"])
        self.check_derivation(TABLE, ("b", "a"))


class NeedlessTest(unittest.TestCase):
    def test_against_the_layouts(self):
        for table in small_tables(27, 400):
            layouts = layouts_of(table)
            if not layouts:
                for call in (needless_rows, thinned):
                    with self.assertRaises(NoLayout) as caught:
                        call(table)
                    self.assertEqual(layouts_of(table.without(*range(caught.exception.number + 1, len(table)))), [])
                continue
            expected = [k for k in range(len(table)) if layouts_of(table.without(k)) == layouts]
            self.assertEqual(needless_rows(table), expected)
            self.assertEqual(thinned(table), self.thinned_by_hand(table))
            self.assertEqual(layouts_of(thinned(table)), layouts)
            self.assertEqual(needless_rows(thinned(table)), [])

    def thinned_by_hand(self, table):
        layouts = layouts_of(table)
        left = list(range(len(table)))
        for number in range(len(table)):
            others = [k for k in left if k != number]
            if layouts_of(Table(table.columns, [table[k] for k in others])) == layouts:
                left = others
        return Table(table.columns, [table[k] for k in left])

    def test_rows_that_say_nothing(self):
        table = Table(["a", "b", "c"], [[], ["b"], ["a", "b"], ["b", "a"], ["a", "b", "c"]])
        self.assertEqual(needless_rows(table), [0, 1, 2, 3, 4])
        self.assertEqual(thinned(table).rows, (("a", "b"),))
        self.assertEqual(len(table), 5)
        self.assertEqual(needless_rows(Table([], [[]])), [0])
        self.assertEqual(thinned(Table([], [[]])), Table([]))
        self.assertEqual(needless_rows(Table(["a", "b"])), [])

    def test_no_layout(self):
        for call in (needless_rows, thinned):
            check_raises(self, NoLayout, {"number": 3}, call, TRIANGLE)

    def test_largest_table(self):
        rows = [TWELVE[low:high] for low in range(12) for high in range(low + 2, 13)]
        table = Table(TWELVE, rows[:48])
        self.assertEqual(needless_rows(table), list(range(48)))
        left = thinned(table)
        self.assertEqual(Tree.of(left), Tree.of(table))
        self.assertEqual(needless_rows(left), [])


if __name__ == "__main__":
    unittest.main()
