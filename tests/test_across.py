"""What holds for many calls.

Points [71] and [72]: names do not matter, and the sequence of the columns for "ascending" alone. Points [2] and
[3]: arguments stay as they are, a tuple may stand for a list, and what is returned can be changed freely.
"""

import unittest
from random import Random

from helpers import layouts_of, small_tables, subsets
from unbrokenrows.derivations import derive, follow, needless_rows, thinned
from unbrokenrows.errors import NoLayout
from unbrokenrows.orders import broken, extent, gap_rows, is_layout, run_count
from unbrokenrows.tables import Table
from unbrokenrows.tabletexts import grid, table_text
from unbrokenrows.trees import Tree

NEW_NAMES = {"a": "loose", "b": "firm", "c": "a", "d": "zebra", "e": "row"}


def new(value):
    """The value with the new names in the place of the old ones; the words of pieces stay."""
    if isinstance(value, str):
        return NEW_NAMES[value]
    return [new(part) for part in value] if isinstance(value, list) else tuple([new(part) for part in value])


def new_form(form):
    if isinstance(form, str):
        return NEW_NAMES[form]
    return (*form[:1], *[new_form(part) for part in form[1:]])


def number_without_layout(table):
    try:
        Tree.of(table)
    except NoLayout as error:
        return error.number
    return None


class RenamedTest(unittest.TestCase):
    def test_renamed_tables(self):
        for table in small_tables(28, 300):
            renamed = table.renamed(**{name: NEW_NAMES[name] for name in table.columns})
            self.assertEqual(renamed.rows, new(table.rows))
            self.assertEqual(number_without_layout(renamed), number_without_layout(table))
            if number_without_layout(table) is None:
                self.check_trees(table, renamed)

    def check_trees(self, table, renamed):
        one, other = Tree.of(table), Tree.of(renamed)
        self.assertEqual(other.form, new_form(one.form))
        self.assertEqual(other.count(), one.count())
        self.assertEqual(list(other.layouts()), new(list(one.layouts())))
        self.assertEqual(other.sure_sets(), new(one.sure_sets()))
        self.assertEqual(other.telling_rows(), new(one.telling_rows()))
        self.assertEqual(other.pieces(), [(word, new(blocks)) for word, blocks in one.pieces()])
        self.assertEqual(other.rank(new(one.kth(one.count() - 1))), one.count() - 1)
        self.assertEqual(needless_rows(renamed), needless_rows(table))
        self.assertEqual(thinned(renamed).rows, new(thinned(table).rows))
        self.assertEqual(gap_rows(renamed, other.first()), gap_rows(table, one.first()))
        for names in one.sure_sets():
            self.assertEqual(follow(renamed, derive(renamed, new(names)))[-1], new(names))


class ReorderedTest(unittest.TestCase):
    def test_reordered_tables(self):
        random = Random(29)
        for table in small_tables(30, 300):
            moved = table.reordered(random.sample(table.columns, len(table.columns)))
            self.assertEqual(number_without_layout(moved), number_without_layout(table))
            self.assertEqual(sorted(layouts_of(moved)), sorted(layouts_of(table)))
            if number_without_layout(table) is None:
                self.check_trees(table, moved)

    def check_trees(self, table, moved):
        one, other = Tree.of(table), Tree.of(moved)
        self.assertEqual(other.count(), one.count())
        self.assertEqual(sorted(other.layouts()), sorted(one.layouts()))
        self.assertEqual({frozenset(names) for names in other.sure_sets()},
                         {frozenset(names) for names in one.sure_sets()})
        self.assertEqual(needless_rows(moved), needless_rows(table))
        order = one.kth(one.count() // 2)
        self.assertTrue(order in other)
        self.assertEqual(gap_rows(moved, order), gap_rows(table, one.first()))
        for number in range(len(table)):
            self.assertEqual(run_count(moved, order, number), run_count(table, order, number))
            self.assertEqual(extent(moved, order, number), extent(table, order, number))
        for names in subsets(table.columns):
            self.assertIs(other.is_sure(names), one.is_sure(names))


class ArgumentTest(unittest.TestCase):
    def setUp(self):
        self.table = Table(["c", "a", "b", "d"], [["a", "b"], ["b", "c"], ["d"], [], ["a", "b", "c"]])
        self.tree = Tree.of(self.table)
        self.before = (self.table.columns, self.table.rows, self.tree.columns, self.tree.form)

    def tearDown(self):
        self.assertEqual((self.table.columns, self.table.rows, self.tree.columns, self.tree.form), self.before)

    def calls(self):
        """Calls that take one list, with such a list."""
        order, names = ["d", "a", "b", "c"], ["b", "a", "b"]
        tree, table = self.tree, self.table
        return [
            (lambda told: tree.rank(told), order), (lambda told: told in tree, order),
            (lambda told: tree.lowest(told), names), (lambda told: tree.is_sure(told), names),
            (lambda told: tree.only(told), names), (lambda told: Tree.holding(told, order), ["a", "b", "c", "d"]),
            (lambda told: Tree.holding(order, told), order), (lambda told: Tree.made(told, tree.form), order),
            (lambda told: derive(table, told), names), (lambda told: follow(table, told), [("row", 1), ("all",)]),
            (lambda told: grid(table, told), order), (lambda told: gap_rows(table, told), order),
            (lambda told: broken(table, told), ["a", "d", "b", "c"]), (lambda told: is_layout(table, told), order),
            (lambda told: table.only(told), names), (lambda told: table.reordered(told), order),
            (lambda told: table.plus(told, ["a"]), ["b", "d"]), (lambda told: Table(told, [["a"]]), order),
            (lambda told: Table(order, told), [["a"], ("c", "b"), []]),
        ]

    def test_lists_stay_and_tuples_stand_for_them(self):
        for call, told in self.calls():
            passed = list(told)
            found = call(passed)
            self.assertEqual(passed, told)
            self.assertEqual(call(tuple(told)), found)

    def test_returned_lists_can_be_changed(self):
        tree, table = self.tree, self.table
        makers = [lambda call=call, told=told: call(told) for call, told in self.calls()]
        makers += [tree.pieces, tree.sure_sets, tree.telling_rows, tree.first, lambda: needless_rows(table)]
        for make in makers:
            found = make()
            if isinstance(found, list):
                before = list(found)
                found.clear()
                self.assertEqual(make(), before)

    def test_tables_and_trees_stay(self):
        other = Tree.of(self.table.only(["a", "b", "c", "d"]).without(0))
        found = [self.tree & other, self.tree | other, self.tree.within(other), thinned(self.table),
                 needless_rows(self.table), table_text(self.table), self.tree.count(), list(self.tree.layouts())]
        self.assertEqual(found[4], [2, 3, 4])
        self.assertEqual(found[3].rows, (("a", "b"), ("c", "b")))


if __name__ == "__main__":
    unittest.main()
