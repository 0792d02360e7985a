"""Points [71] and [72]: names do not matter, and the sequence of the columns for "ascending" alone."""

import unittest
from random import Random

from helpers import layouts_of, small_tables, subsets
from unbrokenrows.derivations import derive, follow, needless_rows, thinned
from unbrokenrows.errors import NoLayout
from unbrokenrows.orders import extent, gap_rows, run_count
from unbrokenrows.trees import Tree

NEW_NAMES = {"a": "loose", "b": "firm", "c": "a", "d": "zebra", "e": "row"}


def new(value):
    """The value with the new names in the place of the old ones; the words of pieces stay."""
    if isinstance(value, str):
        return NEW_NAMES[value]
    return [new(part) for part in value] if isinstance(value, list) else tuple([new(part) for part in value])


def new_form(form):
    if isinstance(form, str):
        return NEW_NAMES[form]
    return (*form[:1], *[new_form(part) for part in form[1:]])


def number_without_layout(table):
    try:
        Tree.of(table)
    except NoLayout as error:
        return error.number
    return None


class RenamedTest(unittest.TestCase):
    def test_renamed_tables(self):
        for table in small_tables(28, 300):
            renamed = table.renamed(**{name: NEW_NAMES[name] for name in table.columns})
            self.assertEqual(renamed.rows, new(table.rows))
            self.assertEqual(number_without_layout(renamed), number_without_layout(table))
            if number_without_layout(table) is None:
                self.check_trees(table, renamed)

    def check_trees(self, table, renamed):
        one, other = Tree.of(table), Tree.of(renamed)
        self.assertEqual(other.form, new_form(one.form))
        self.assertEqual(other.count(), one.count())
        self.assertEqual(list(other.layouts()), new(list(one.layouts())))
        self.assertEqual(other.sure_sets(), new(one.sure_sets()))
        self.assertEqual(other.telling_rows(), new(one.telling_rows()))
        self.assertEqual(other.pieces(), [(word, new(blocks)) for word, blocks in one.pieces()])
        self.assertEqual(other.rank(new(one.kth(one.count() - 1))), one.count() - 1)
        self.assertEqual(needless_rows(renamed), needless_rows(table))
        self.assertEqual(thinned(renamed).rows, new(thinned(table).rows))
        self.assertEqual(gap_rows(renamed, other.first()), gap_rows(table, one.first()))
        for names in one.sure_sets():
            self.assertEqual(follow(renamed, derive(renamed, new(names)))[-1], new(names))


class ReorderedTest(unittest.TestCase):
    def test_reordered_tables(self):
        random = Random(29)
        for table in small_tables(30, 300):
            moved = table.reordered(random.sample(table.columns, len(table.columns)))
            self.assertEqual(number_without_layout(moved), number_without_layout(table))
            self.assertEqual(sorted(layouts_of(moved)), sorted(layouts_of(table)))
            if number_without_layout(table) is None:
                self.check_trees(table, moved)

    def check_trees(self, table, moved):
        one, other = Tree.of(table), Tree.of(moved)
        self.assertEqual(other.count(), one.count())
        self.assertEqual(sorted(other.layouts()), sorted(one.layouts()))
        self.assertEqual({frozenset(names) for names in other.sure_sets()},
                         {frozenset(names) for names in one.sure_sets()})
        self.assertEqual(needless_rows(moved), needless_rows(table))
        order = one.kth(one.count() // 2)
        self.assertTrue(order in other)
        self.assertEqual(gap_rows(moved, order), gap_rows(table, one.first()))
        for number in range(len(table)):
            self.assertEqual(run_count(moved, order, number), run_count(table, order, number))
            self.assertEqual(extent(moved, order, number), extent(table, order, number))
        for names in subsets(table.columns):
            self.assertIs(other.is_sure(names), one.is_sure(names))


if __name__ == "__main__":
    unittest.main()
