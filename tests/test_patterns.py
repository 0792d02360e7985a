import unittest
from random import Random

from helpers import TWELVE, check_raises, layouts_of, small_tables, table_with_layout
from unbrokenrows.errors import BadKind, NoLayout
from unbrokenrows.patterns import Pattern, find_pattern, lies_in, recognized, standard_rows, standard_width
from unbrokenrows.tables import Table
from unbrokenrows.trees import Tree

SIZES = [(1, size) for size in range(1, 11)] + [(kind, size) for kind in (2, 3) for size in range(1, 10)]
SIZES += [(4, 1), (5, 1)]


def has_layout(table):
    try:
        Tree.of(table)
    except NoLayout:
        return False
    return True


def standard_table(kind, size):
    """The standard table with the names a, b, c .. for 0, 1, 2 .."""
    names = TWELVE[:standard_width(kind, size)]
    return Table(names, [[names[number] for number in row] for row in standard_rows(kind, size)])


def mixed(random, table):
    """The table with its rows and its columns in another sequence."""
    rows = random.sample(table.rows, len(table))
    return Table(random.sample(table.columns, len(table.columns)), rows)


def among_others(random, table):
    """The table with further columns, marks in them, and further rows."""
    more = TWELVE[len(table.columns):random.randint(len(table.columns), 12)]
    columns = random.sample(table.columns + tuple(more), len(table.columns) + len(more))
    rows = [list(row) + random.sample(more, random.randint(0, len(more))) for row in table]
    rows += [random.sample(columns, random.randint(0, len(columns))) for _ in range(random.randint(0, 5))]
    return Table(columns, random.sample(rows, len(rows)))


class StandardTest(unittest.TestCase):
    def test_example(self):
        self.assertEqual(standard_rows(2, 1), [(0, 1), (1, 2), (0, 1, 3), (1, 2, 3)])

    def test_rows(self):
        for (kind, size), rows in {
                (1, 1): [(0, 1), (1, 2), (0, 2)], (1, 3): [(0, 1), (1, 2), (2, 3), (3, 4), (0, 4)],
                (2, 2): [(0, 1), (1, 2), (2, 3), (0, 1, 2, 4), (1, 2, 3, 4)],
                (3, 1): [(0, 1), (1, 2), (1, 3)], (3, 3): [(0, 1), (1, 2), (2, 3), (3, 4), (1, 2, 3, 5)],
                (4, 1): [(0, 1), (2, 3), (4, 5), (1, 3, 5)],
                (5, 1): [(0, 1), (2, 3), (0, 1, 2, 3), (1, 2, 4)]}.items():
            self.assertEqual(standard_rows(kind, size), rows)

    def test_rows_of_every_size(self):
        for kind, size in SIZES:
            width, rows = standard_width(kind, size), standard_rows(kind, size)
            self.assertEqual(sorted({number for row in rows for number in row}), list(range(width)))
            if kind > 3:
                continue
            self.assertEqual(width, size + (2 if kind == 1 else 3))
            path = [(at, at + 1) for at in range(size + 1)]
            last = {1: [(0, size + 1)], 3: [tuple(range(1, size + 1)) + (size + 2,)],
                    2: [tuple(range(size + 1)) + (size + 2,), tuple(range(1, size + 2)) + (size + 2,)]}[kind]
            self.assertEqual(rows, path + last)
        self.assertEqual([standard_width(4, 1), standard_width(5, 1)], [6, 5])

    def test_wrong_kinds(self):
        wrong = [(0, 1), (6, 1), (-1, 1), (10 ** 9, 1), (-10 ** 9, -10 ** 9), (4, 2), (5, 2), (4, 0), (5, 0), (4, -1),
                 (5, 10 ** 9), (1, 11), (2, 10), (3, 10), (1, 10 ** 9)]
        for kind, size in wrong + [(kind, size) for kind in (1, 2, 3) for size in (0, -1, -2, -3, -10 ** 9)]:
            for call in (standard_rows, standard_width):
                check_raises(self, BadKind, {"kind": kind, "size": size}, call, kind, size)

    def test_no_layout_but_one_without_a_row_or_a_column(self):
        for kind, size in SIZES:
            table = standard_table(kind, size)
            self.assertFalse(has_layout(table))
            self.assertTrue(all(has_layout(table.without(number)) for number in range(len(table))))
            for name in table.columns:
                self.assertTrue(has_layout(table.only([other for other in table.columns if other != name])))

    def test_returned_rows_can_be_changed(self):
        for kind, size in SIZES:
            rows = standard_rows(kind, size)
            standard_rows(kind, size).clear()
            self.assertEqual(standard_rows(kind, size), rows)
            self.assertTrue(all(isinstance(row, tuple) for row in rows))


class LiesInTest(unittest.TestCase):
    def setUp(self):
        self.table = Table(["a", "b", "c", "d"], [["a", "b"], ["d"], ["a", "c"], ["b", "c"]])

    def test_attributes_and_equality(self):
        rows, columns = [3, 1], ["x", "a", "a"]
        pattern = Pattern(7, -2, rows, columns)
        rows.append(4)
        columns.append("b")
        self.assertEqual((pattern.kind, pattern.size, pattern.rows, pattern.columns), (7, -2, (3, 1), ("x", "a", "a")))
        self.assertTrue(pattern == Pattern(7, -2, (3, 1), ("x", "a", "a")))
        for other in [Pattern(6, -2, (3, 1), ("x", "a", "a")), Pattern(7, 2, (3, 1), ("x", "a", "a")),
                      Pattern(7, -2, (1, 3), ("x", "a", "a")), Pattern(7, -2, (3, 1), ("x", "a"))]:
            self.assertFalse(pattern == other)
            self.assertTrue(pattern != other)

    def test_example(self):
        found = find_pattern(self.table)
        self.assertEqual([found.kind, found.size, lies_in(self.table, found),
                          lies_in(self.table, Pattern(1, 1, (0, 3, 2), ("a", "b", "c")))], [1, 1, True, True])

    def test_sequences(self):
        for columns, rows, expected in [
                ("abc", (0, 3, 2), True), ("acb", (2, 3, 0), True), ("cab", (2, 0, 3), True), ("bca", (3, 2, 0), True),
                ("abc", (0, 2, 3), False), ("abc", (3, 0, 2), False), ("abc", (2, 3, 0), False)]:
            self.assertIs(lies_in(self.table, Pattern(1, 1, rows, tuple(columns))), expected)

    def test_wrong_patterns(self):
        for pattern in [
                Pattern(0, 1, (0, 3, 2), "abc"), Pattern(6, 1, (0, 3, 2), "abc"), Pattern(1, 0, (0, 3, 2), "abc"),
                Pattern(1, 11, (0, 3, 2), "abc"), Pattern(1, 2, (0, 3, 2), "abc"), Pattern(1, 1, (0, 3), "abc"),
                Pattern(1, 1, (0, 3, 2, 1), "abc"), Pattern(1, 1, (0, 3, 2, 2), "abc"), Pattern(1, 1, (0, 3, 2), "ab"),
                Pattern(1, 1, (0, 3, 2), "abcd"), Pattern(1, 1, (0, 3, 2), "abx"), Pattern(1, 1, (0, 3, 2), "aba"),
                Pattern(1, 1, (0, 3, 3), "abc"), Pattern(1, 1, (0, 3, 4), "abc"), Pattern(1, 1, (0, 3, -2), "abc"),
                Pattern(1, 1, (-4, -1, -2), "abc"), Pattern(1, 1, (), ()), Pattern(3, 1, (0, 3, 2), "abcd")]:
            self.assertIs(lies_in(self.table, pattern), False)

    def test_doubles_that_would_fit(self):
        table = Table(["a", "b", "c", "d"], [["a", "b"], ["b", "c"], ["a", "c"], ["a", "c"]])
        self.assertIs(lies_in(table, Pattern(1, 1, (0, 1, 2), "abc")), True)
        self.assertIs(lies_in(table, Pattern(1, 1, (0, 1, 3), "abc")), True)
        self.assertIs(lies_in(Table(["a", "b"], [["a", "b"]]), Pattern(1, 1, (0, 0, 0), "abb")), False)

    def test_one_mark_too_many_or_too_few(self):
        for kind, size in SIZES:
            table = standard_table(kind, size)
            pattern = Pattern(kind, size, range(len(table)), table.columns)
            self.assertIs(lies_in(table, pattern), True)
            for number in range(len(table)):
                for name in table.columns:
                    rows = [list(row) for row in table]
                    if name in rows[number]:
                        rows[number].remove(name)
                    else:
                        rows[number].append(name)
                    self.assertIs(lies_in(Table(table.columns, rows), pattern), False)

    def test_patterns_with_changes(self):
        """Compared with the words of the point, number by number."""
        random = Random(41)
        seen = {True: 0, False: 0}
        for _ in range(3000):
            kind, size = random.choice([(1, 1), (3, 1), (2, 1), (1, 2), (5, 1)])
            table = among_others(random, standard_table(kind, size))
            found = find_pattern(table)
            rows, columns = list(found.rows), list(found.columns)
            for told, many in ((rows, len(table)), (columns, len(table.columns))):
                if random.random() < 0.3:
                    one, other = random.randrange(len(told)), random.randrange(len(told))
                    told[one], told[other] = told[other], told[one]
                if random.random() < 0.1:
                    told[random.randrange(len(told))] = random.choice(
                        range(many) if told is rows else table.columns)
            standard = standard_rows(found.kind, found.size)
            expected = len(set(rows)) == len(rows) and len(set(columns)) == len(columns) and all(
                (columns[j] in table[rows[i]]) == (j in standard[i])
                for i in range(len(rows)) for j in range(len(columns)))
            seen[expected] += 1
            self.assertIs(lies_in(table, Pattern(found.kind, found.size, rows, columns)), expected)
        self.assertGreater(min(seen.values()), 500)


class FindTest(unittest.TestCase):
    def check_found(self, table):
        """True if a pattern is found."""
        pattern = find_pattern(table)
        self.assertIs(pattern is None, has_layout(table))
        if pattern is None:
            return False
        self.assertTrue(lies_in(table, pattern))
        self.assertIsInstance(pattern.rows, tuple)
        self.assertIsInstance(pattern.columns, tuple)
        return True

    def test_small_tables_by_all_orders(self):
        found = 0
        for table in small_tables(42, 800, 5, 9):
            self.assertIs(self.check_found(table), layouts_of(table) == [])
            found += self.check_found(table)
        self.assertTrue(50 < found < 700, found)

    def test_random_tables(self):
        random = Random(43)
        found = 0
        for _ in range(300):
            names = TWELVE[:random.randint(1, 12)]
            table = table_with_layout(random, names, random.randint(0, 46))
            more = [random.sample(names, random.randint(0, len(names))) for _ in range(random.randint(0, 2))]
            rows = random.sample(list(table.rows) + more, len(table) + len(more))
            found += self.check_found(Table(table.columns, rows))
        self.assertTrue(50 < found < 250, found)

    def test_rows_with_a_wrong_mark(self):
        random = Random(44)
        found = 0
        for _ in range(400):
            names = TWELVE[:random.randint(4, 12)]
            table = table_with_layout(random, names, random.randint(3, 48))
            rows = [list(row) for row in table]
            for _ in range(random.randint(1, 2)):
                row, name = random.choice(rows), random.choice(names)
                if name in row:
                    row.remove(name)
                else:
                    row.append(name)
            found += self.check_found(Table(table.columns, rows))
        self.assertTrue(100 < found < 350)

    def test_standard_tables_of_every_size(self):
        random = Random(45)
        for kind, size in SIZES:
            table = standard_table(kind, size)
            for one in [table, mixed(random, table), mixed(random, table)]:
                for pattern in [find_pattern(one), recognized(one)]:
                    self.assertEqual((pattern.kind, pattern.size), (kind, size))
                    self.assertEqual(sorted(pattern.rows), list(range(len(table))))
                    self.assertEqual(sorted(pattern.columns), sorted(table.columns))
                    self.assertTrue(lies_in(one, pattern))
            for _ in range(4):
                self.assertTrue(self.check_found(among_others(random, table)))

    def test_full_size(self):
        rows = [["a", "b"]] * 46 + [["b", "c"], ["c", "a"]]
        self.assertTrue(self.check_found(Table(TWELVE, rows)))
        self.assertIsNone(find_pattern(Table(TWELVE, [TWELVE] * 48)))
        self.assertIsNone(find_pattern(Table([], [[]])))
        self.assertIsNone(find_pattern(Table([])))

    def test_a_pattern_stays_with_more_rows(self):
        random = Random(46)
        for table in small_tables(47, 300, 5, 6):
            pattern = find_pattern(table)
            if pattern is not None:
                more = table.plus(random.sample(table.columns, random.randint(0, len(table.columns))))
                self.assertTrue(lies_in(more, pattern))
                self.assertFalse(has_layout(more))


class RecognizedTest(unittest.TestCase):
    def test_one_row_or_one_column_more(self):
        random = Random(48)
        for kind, size in SIZES:
            table = mixed(random, standard_table(kind, size))
            self.assertIsNone(recognized(table.plus([])))
            self.assertIsNone(recognized(table.plus(table[0])))
            if len(table.columns) < 12:
                self.assertIsNone(recognized(table | Table.empty("z")))
            self.assertIsNone(recognized(table.without(0)))
            self.assertIsNone(recognized(table.only(table.columns[1:])))

    def test_other_tables(self):
        for table in [Table([]), Table([], [[], []]), Table(["a"], [["a"]]), Table.empty(*TWELVE),
                      Table(TWELVE, [TWELVE] * 48), Table(["a", "b", "c"], [["a", "b"], ["b", "c"], ["a", "b"]])]:
            self.assertIsNone(recognized(table))

    def test_one_mark_changed(self):
        """What is recognized then is found by trying all sequences of the small table."""
        random = Random(49)
        for kind, size in SIZES:
            for _ in range(6):
                table = mixed(random, standard_table(kind, size))
                rows = [list(row) for row in table]
                row, name = random.choice(rows), random.choice(table.columns)
                if name in row:
                    row.remove(name)
                else:
                    row.append(name)
                changed = Table(table.columns, rows)
                pattern = recognized(changed)
                if pattern is not None:
                    self.assertTrue(lies_in(changed, pattern))
                if has_layout(changed):
                    self.assertIsNone(pattern)

    def test_smallest_tables_without_a_layout_are_recognized(self):
        """A table without a layout that has one without any one row or column is a standard table."""
        random = Random(50)
        seen = {}
        for _ in range(600):
            columns = TWELVE[:random.randint(3, 8)]
            rows = [random.sample(columns, random.randint(2, min(4, len(columns)))) for _ in range(8)]
            table = Table(random.sample(columns, len(columns)), rows)
            if not has_layout(table):
                table = self.smallest(random, table)
                pattern = recognized(table)
                seen[pattern.kind] = True
                self.assertTrue(lies_in(table, pattern))
                self.assertEqual((len(pattern.rows), len(pattern.columns)), (len(table), len(table.columns)))
        self.assertLessEqual({1, 2, 3}, set(seen))

    def smallest(self, random, table):
        for number in sorted(random.sample(range(len(table)), len(table)), reverse=True):
            if not has_layout(table.without(number)):
                table = table.without(number)
        for name in random.sample(table.columns, len(table.columns)):
            fewer = table.only([other for other in table.columns if other != name])
            table = table if has_layout(fewer) else fewer
        self.assertTrue(all(has_layout(table.without(number)) for number in range(len(table))))
        return table


if __name__ == "__main__":
    unittest.main()
