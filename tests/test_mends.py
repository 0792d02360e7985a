import unittest
from itertools import combinations
from random import Random
from time import perf_counter

from helpers import TWELVE, check_new_lists, check_raises, layouts_of, random_table, small_tables, table_with_layout
from unbrokenrows.errors import BadNumber, NoLayout, NoMend, TooMany
from unbrokenrows.mends import Mend, fewest_rows, single_columns, single_marks, single_rows
from unbrokenrows.patterns import Pattern, find_pattern, lies_in, standard_rows
from unbrokenrows.tables import Table
from unbrokenrows.trees import Tree

SECONDS = 5
RING = Table(["a", "b", "c", "d"], [["a", "b"], ["b", "c"], ["c", "a"]])
STAR = Table(["a", "b", "c", "d"], [["a", "b"], ["a", "c"], ["a", "d"], ["b"]])


def has_layout(table):
    try:
        Tree.of(table)
    except NoLayout:
        return False
    return True


def crowded(random, names, most):
    """A table with rows of a few columns, so that it often has no layout."""
    columns = random.sample(names, len(names))
    many = random.randint(0, most) if random.random() < 0.5 else most
    return Table(columns, [random.sample(columns, random.randint(1, 3)) for _ in range(many)])


def some_tables(seed, many, most=6):
    random = Random(seed)
    found = small_tables(seed, many // 2, 5, most)
    found += [crowded(random, TWELVE[:random.choice([3, 4, 5])], most) for _ in range(many)]
    return found + [random_table(random, TWELVE[:5], most) for _ in range(many // 4)]


def without_mark(table, number, name):
    rows = [list(row) for row in table.rows]
    rows[number].remove(name)
    return Table(table.columns, rows)


def table_of_pattern(random, kind, size, names):
    """The standard table in other sequences, beside other columns and rows."""
    rows = standard_rows(kind, size)
    columns = random.sample(names, len(names))
    told = [[columns[number] for number in row] for row in random.sample(rows, len(rows))]
    return Table(random.sample(columns, len(columns)), [*told, [columns[0]], []])


class SingleTest(unittest.TestCase):
    def test_all_layouts(self):
        seen = [0, 0, 0, 0]
        for table in some_tables(410, 200):
            rows = [number for number in range(len(table)) if layouts_of(table.without(number))]
            columns = [name for name in table.columns
                       if layouts_of(table.only([other for other in table.columns if other != name]))]
            marks = [(number, name) for number, row in enumerate(table.rows) for name in row
                     if layouts_of(without_mark(table, number, name))]
            self.assertEqual(single_rows(table), rows)
            self.assertEqual(single_columns(table), columns)
            self.assertEqual(single_marks(table), marks)
            if not layouts_of(table):
                for at, found in enumerate((rows, columns, marks, [1])):
                    seen[at] += bool(found)
        self.assertGreater(min(seen), 20)

    def test_tables_with_a_layout(self):
        for table in small_tables(411, 150):
            if layouts_of(table):
                self.assertEqual(single_rows(table), list(range(len(table))))
                self.assertEqual(single_columns(table), list(table.columns))
        self.assertEqual([single_rows(Table.empty()), single_columns(Table.empty()), single_marks(Table.empty())],
                         [[], [], []])
        # Without one of its marks a table can lose its layout.
        table = Table(["a", "b", "c"], [["a", "b"], ["b", "c"], ["a", "b", "c"]])
        self.assertEqual(single_marks(table), [(0, "a"), (0, "b"), (1, "b"), (1, "c"), (2, "a"), (2, "c")])

    def test_everything_found_is_in_each_pattern(self):
        random = Random(412)
        tables = [table for table in some_tables(413, 160) if not layouts_of(table)]
        tables += [table_of_pattern(random, kind, size, TWELVE) for kind in range(1, 6)
                   for size in ((1, 2, 4) if kind < 4 else (1,))]
        for table in tables:
            pattern = find_pattern(table)
            self.assertTrue(set(single_rows(table)) <= set(pattern.rows))
            self.assertTrue(set(single_columns(table)) <= set(pattern.columns))
            for number, name in single_marks(table) if table.marks() <= 40 else []:
                self.assertTrue(number in pattern.rows and name in pattern.columns)

    def test_standard_tables_are_mended_everywhere(self):
        random = Random(414)
        for kind, size in [(1, 3), (1, 10), (2, 1), (2, 5), (3, 1), (3, 6), (4, 1), (5, 1)]:
            table = table_of_pattern(random, kind, size, TWELVE)
            pattern = find_pattern(table)
            self.assertEqual(single_rows(table), sorted(pattern.rows))
            self.assertEqual(single_columns(table), [name for name in table.columns if name in pattern.columns])

    def test_too_many_marks(self):
        for rows, many in [([TWELVE] * 3 + [TWELVE[:5]], 41), ([TWELVE] * 48, 576), ([["a"]] * 41, 41)]:
            check_raises(self, TooMany, {"many": many}, single_marks, Table(TWELVE, rows))
        self.assertEqual(len(single_marks(Table(TWELVE, [["a"]] * 40))), 40)

    def test_forty_marks_and_forty_eight_rows(self):
        random = Random(415)
        begun = perf_counter()
        for _ in range(5):
            table = table_with_layout(random, TWELVE, 45).plus(["a", "b"], ["b", "c"], ["c", "a"])
            for number in single_rows(table):
                self.assertTrue(has_layout(table.without(number)))
            single_columns(table)
            few = Table(TWELVE, [random.sample(TWELVE, 2) for _ in range(20)])
            self.assertEqual(few.marks(), 40)
            for number, name in single_marks(few):
                self.assertTrue(has_layout(without_mark(few, number, name)))
        self.assertLess(perf_counter() - begun, SECONDS)

    def test_lists_are_new(self):
        for call in (single_rows, single_columns, single_marks):
            check_new_lists(self, lambda: call(RING))
            self.assertIsInstance(call(RING), list)


class FewestTest(unittest.TestCase):
    def check_case(self, table, case, depth, taken=()):
        self.assertIsInstance(case, tuple)
        pattern, further = case
        self.assertIsInstance(pattern, Pattern)
        self.assertTrue(lies_in(table, pattern))
        self.assertFalse(set(pattern.rows) & set(taken))
        self.assertIsInstance(further, tuple)
        self.assertEqual(len(further), len(pattern.rows) if depth else 0)
        for number, inner in zip(pattern.rows, further):
            self.check_case(table, inner, depth - 1, (*taken, number))

    def check_fewest(self, table):
        fewest = next(many for many in range(7) if self.choices(table, many))
        for most in range(3):
            if fewest > most:
                with self.assertRaises(NoMend) as caught:
                    fewest_rows(table, most)
                self.assertEqual(list(vars(caught.exception)), ["cases"])
                self.check_case(table, caught.exception.cases, most)
                continue
            mend = fewest_rows(table, most)
            self.assertIsInstance(mend, Mend)
            self.assertIsInstance(mend.rows, tuple)
            self.assertIn(mend.rows, self.choices(table, fewest))
            if fewest == 0:
                self.assertIsNone(mend.cases)
            else:
                self.check_case(table, mend.cases, fewest - 1)
        return fewest

    def choices(self, table, many):
        return [taken for taken in combinations(range(len(table)), many) if has_layout(table.without(*taken))]

    def test_all_choices(self):
        random = Random(423)
        tables = some_tables(420, 200)
        tables += [Table(TWELVE[:4], [random.sample(TWELVE[:4], 2) for _ in range(6)]) for _ in range(100)]
        tables.append(Table(TWELVE[:4], list(combinations(TWELVE[:4], 2))))
        seen = [self.check_fewest(table) for table in tables]
        self.assertGreater(min(seen.count(many) for many in range(3)), 20)
        self.assertEqual(seen[-1], 3)

    def test_greater_tables(self):
        random = Random(421)
        seen = [self.check_fewest(Table(TWELVE, [random.sample(TWELVE, random.randint(2, 7)) for _ in range(6)]))
                for _ in range(60)]
        self.assertTrue(max(seen) > 2)

    def test_one_row(self):
        mend = fewest_rows(RING, 2)
        self.assertEqual((len(mend.rows), mend.cases[1]), (1, ()))
        self.assertTrue(lies_in(RING, mend.cases[0]))
        self.assertEqual(fewest_rows(RING.without(0), 0).rows, ())
        self.assertEqual(fewest_rows(Table.empty(), 1).rows, ())

    def test_bad_number(self):
        long = Table(["a"], [[]] * 7)
        for most in (-1, 3, 10 ** 9, -10 ** 9):
            for table in (RING, long, STAR):
                check_raises(self, BadNumber, {"number": most}, fewest_rows, table, most)

    def test_too_many(self):
        for many in (7, 48):
            for most in range(3):
                check_raises(self, TooMany, {"many": many}, fewest_rows, Table(["a"], [[]] * many), most)
        self.assertEqual(fewest_rows(Table(["a"], [[]] * 6), 0).rows, ())
        check_raises(self, TooMany, {"many": 7}, fewest_rows, RING.plus([], [], [], []), 0)

    def test_single_rows(self):
        """Point [79]."""
        for table in some_tables(422, 200):
            for most in (1, 2):
                try:
                    rows = fewest_rows(table, most).rows
                except NoMend:
                    rows = None
                self.assertIs(rows == (), has_layout(table))
                one = not has_layout(table) and single_rows(table) != []
                self.assertIs(rows is not None and len(rows) == 1, one)
                if one:
                    self.assertIn(rows[0], single_rows(table))


if __name__ == "__main__":
    unittest.main()
