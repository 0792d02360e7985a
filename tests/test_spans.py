import unittest
from random import Random
from time import perf_counter

from helpers import (TWELVE, check_new_lists, check_no_dating, check_numbers, check_raises, datings, in_one_piece,
                     keeps_spans, layouts_of, random_spans, random_table, small_tables, spans_over, subsets, surplus,
                     table_of_form, table_with_layout)
from unbrokenrows.errors import (BadNumber, BadOrder, BadSpan, BadYears, BrokenSpan, NoDating, NoLayout, NotLayout,
                                 NotSure, UnknownColumn)
from unbrokenrows.spans import Lasting, Spans, check_years, earliest, lasting, time_of
from unbrokenrows.tables import Table
from unbrokenrows.trees import Tree

ABCD = Table(["a", "b", "c", "d"], [["a", "b"], ["b", "c"], [], ["d"]])
NO_LAYOUT = Table(["a", "b", "c"], [["a", "b"], ["b", "c"], ["c", "a"]])
SECONDS = 5


def tables_with_spans(seed, many, most_columns=5, most_spans=4):
    """Tables that have layouts, with spans with small numbers."""
    random = Random(seed)
    found = []
    for number in range(many):
        if number % 4:
            columns = random.sample(TWELVE[:most_columns], random.randint(1, most_columns))
            table = table_with_layout(random, columns, random.randint(1, 5))
        else:
            table = table_of_form(random, most_columns)
            table = table.plus(table.columns, table.columns[:1])
        found.append((table, random_spans(random, table, random.randint(0, most_spans))))
    return found


class MakeTest(unittest.TestCase):
    def test_attributes(self):
        told = [[0, 3, None], (1, 2, 5), (0, 0, 0), (3, 0, 10 ** 6), (0, 10 ** 6, 10 ** 6)]
        spans = Spans(ABCD, told)
        told[0][1] = 4
        told.pop()
        self.assertEqual(spans.table, ABCD)
        self.assertEqual(spans.told, ((0, 3, None), (1, 2, 5), (0, 0, 0), (3, 0, 10 ** 6), (0, 10 ** 6, 10 ** 6)))
        self.assertTrue(all(isinstance(span, tuple) for span in spans.told))
        self.assertEqual(Spans(ABCD, ()).told, ())

    def test_too_many_come_first(self):
        check_raises(self, BadSpan, {"index": 24}, Spans, ABCD, [(0, 1, 2)] * 25)
        check_raises(self, BadSpan, {"index": 24}, Spans, ABCD, [(9, 1, 2)] * 30)
        self.assertEqual(len(Spans(ABCD, [(0, 1, 2)] * 24).told), 24)

    def test_wrong_spans(self):
        wrong = [(4, 0, 1), (-1, 0, 1), (-4, 0, 1), (2, 0, 1), (2, 0, None), (10 ** 9, 0, 1), (0, -1, 1), (0, -1, None),
                 (0, 10 ** 6 + 1, None), (0, 10 ** 6 + 1, 10 ** 6 + 1), (0, 2, 1), (0, 0, 10 ** 6 + 1), (0, 1, 0),
                 (0, 0, -1), (0, 1, -1), (0, 10 ** 9, None), (0, 0, 10 ** 9)]
        for span in wrong:
            for before in ([], [(0, 0, None)], [(0, 5, 7)] * 23):
                check_raises(self, BadSpan, {"index": len(before)}, Spans, ABCD, (before + [span, (7, 7, 7)])[:24])

    def test_a_table_without_a_layout(self):
        self.assertEqual(Spans(NO_LAYOUT, [(2, 0, 1)]).told, ((2, 0, 1),))


class YearsTest(unittest.TestCase):
    def test_time(self):
        order, years = ["d", "a", "c", "b"], [-5, 0, 0, 7]
        for names, time in [("d", 0), ("b", 0), ("ac", 0), ("bd", 12), ("db", 12), ("bcb", 7), ("dadd", 5), ("cc", 0),
                            ("abcd", 12), ("cab", 7)]:
            self.assertEqual(time_of(order, years, list(names)), time)
            self.assertEqual(time_of(tuple(order), tuple(years), tuple(names)), time)

    def test_check(self):
        spans = Spans(ABCD, [(0, 3, None), (1, 2, 5), (3, 0, 0)])
        for order, years in [("abcd", [0, 3, 5, 5]), ("dcba", [-9, -9, -4, 10 ** 6]), ("dabc", [0, 0, 3, 8])]:
            self.assertIsNone(check_years(spans, list(order), years))
            self.assertIsNone(check_years(spans, tuple(order), tuple(years)))
        for order, years, index in [("abcd", [0, 2, 5, 5], 0), ("abcd", [0, 3, 4, 4], 1), ("abcd", [0, 3, 9, 9], 1),
                                    ("abcd", [0, 2, 2, 2], 0), ("dcba", [0, 0, 1, 3], 0), ("dcba", [0, 0, 1, 4], 1)]:
            check_raises(self, BrokenSpan, {"index": index}, check_years, spans, list(order), years)

    def test_errors_in_turn(self):
        spans = Spans(ABCD, [(0, 3, None)])
        for order, index in [("", 0), ("abx", 2), ("abca", 3), ("abcdd", 4), ("abc", 3)]:
            check_raises(self, BadOrder, {"index": index}, check_years, spans, list(order), [3, 2])
            check_raises(self, BadOrder, {"index": index}, earliest, spans, list(order))
        for order in ("acbd", "adbc"):
            check_raises(self, NotLayout, {}, check_years, spans, list(order), [3, 2])
            check_raises(self, NotLayout, {}, earliest, spans, list(order))
        for years, index in [([], 0), ([1], 1), ([1, 1, 1], 3), ([1, 1, 1, 1, 1], 4), ([1, 0], 1), ([0, 1, 0, 1, 1], 2),
                             ([0, 1, 2, 1], 3), ([0, 3, 3, 2, 2], 3), ([5, 4, 3, 2], 1), ([0, 3, 2], 2),
                             ([0, 0, 0, 0, -1], 4), ([0, 2, 1, 1], 2)]:
            check_raises(self, BadYears, {"index": index}, check_years, spans, list("abcd"), years)
        check_raises(self, BrokenSpan, {"index": 0}, check_years, spans, list("abcd"), [0, 0, 0, 0])

    def test_without_columns(self):
        spans = Spans(Table([], [[], []]), [])
        self.assertIsNone(check_years(spans, [], []))
        check_raises(self, BadYears, {"index": 0}, check_years, spans, [], [0])
        self.assertEqual(earliest(spans, []), [])

    def test_all_years(self):
        for table, told in tables_with_spans(110, 60, 3, 3):
            spans = Spans(table, told)
            for order in layouts_of(table):
                for years in datings(len(order), 4):
                    broken = [at for at in range(len(told)) if not keeps_spans(table, [told[at]], order, years)]
                    if broken:
                        check_raises(self, BrokenSpan, {"index": broken[0]}, check_years, spans, order, years)
                    else:
                        self.assertIsNone(check_years(spans, order, years))


class EarliestTest(unittest.TestCase):
    def test_examples(self):
        spans = Spans(ABCD, [(0, 3, None), (1, 2, 5)])
        self.assertEqual([earliest(spans, list("abcd")), earliest(spans, list("dcba"))], [[0, 3, 5, 5], [0, 0, 2, 5]])
        table = Table(["a", "b", "c"], [["a", "b"], ["a", "b", "c"]])
        check_raises(self, NoDating, {"less": (0,), "more": (1,)}, earliest,
                     Spans(table, [(0, 4, 9), (1, 0, 3)]), list("abc"))

    def test_against_all_datings(self):
        """Each layout has the earliest dating, or none has one and the tuples show it."""
        seen = {True: 0, False: 0}
        for table, told in tables_with_spans(111, 400):
            spans, last = Spans(table, told), sum(least for _, least, _ in told)
            possible = []
            for order in layouts_of(table):
                kept = [years for years in datings(len(order), last) if keeps_spans(table, told, order, years)]
                possible.append(len(kept) > 0)
                if kept:
                    found = earliest(spans, order)
                    self.assertIn(found, kept)
                    self.assertEqual(found, [min(years[at] for years in kept) for at in range(len(order))])
                    self.assertEqual(earliest(spans, tuple(order)), found)
                    self.assertIsNone(check_years(spans, order, found))
                else:
                    self.check_none(spans, order)
            self.assertEqual(len(set(possible)), 1)
            seen[possible[0]] += 1
        self.assertGreater(min(seen.values()), 60)

    def check_none(self, spans, order):
        with self.assertRaises(NoDating) as caught:
            earliest(spans, order)
        self.assertIs(type(caught.exception), NoDating)
        self.assertEqual(list(vars(caught.exception)), ["less", "more"])
        check_no_dating(self, spans.table, spans.told, caught.exception.less, caught.exception.more)

    def test_rows_of_one_column(self):
        for least, most in [(0, 0), (0, None), (0, 7)]:
            self.assertEqual(earliest(Spans(ABCD, [(3, least, most)]), list("abcd")), [0, 0, 0, 0])
        for told in ([(3, 1, None)], [(3, 1, 1)], [(0, 1, None), (3, 10 ** 6, None)]):
            self.check_none(Spans(ABCD, told), list("dabc"))

    def test_equal_rows(self):
        table = Table(["a", "b", "c"], [["a", "b"], ["b", "a"], ["a", "b", "c"]])
        self.assertEqual(earliest(Spans(table, [(0, 2, 9), (1, 4, 5), (0, 3, None)]), list("abc")), [0, 4, 4])
        self.check_none(Spans(table, [(0, 2, 3), (1, 4, 5)]), list("abc"))
        self.check_none(Spans(table, [(0, 0, 3), (0, 4, None), (2, 0, 0)]), list("cba"))

    def test_large_numbers(self):
        table = Table(TWELVE, [TWELVE[at:at + 2] for at in range(11)] + [TWELVE])
        told = [(at, 10 ** 6, 10 ** 6) for at in range(11)]
        self.assertEqual(earliest(Spans(table, told), TWELVE), [at * 10 ** 6 for at in range(12)])
        with self.assertRaises(NoDating) as caught:
            earliest(Spans(table, told + [(11, 0, 10 ** 6)]), TWELVE)
        less, more = caught.exception.less, caught.exception.more
        self.assertEqual(more, (11,))
        self.assertGreater(surplus(told + [(11, 0, 10 ** 6)], less, more), 0)

    def test_twelve_columns(self):
        random = Random(112)
        begun = perf_counter()
        seen = {True: 0, False: 0}
        for _ in range(60):
            table = table_with_layout(random, TWELVE, 48)
            order = Tree.of(table).first()
            years = sorted(random.choices(range(100), k=12))
            times = [(at, time_of(order, years, row)) for at, row in enumerate(table) if row][:24]
            told = [(at, max(0, time - random.randint(0, 3)), random.choice([None, time + random.randint(0, 3)]))
                    for at, time in times]
            if random.random() < 0.5:
                told[0] = (told[0][0], told[0][1] + 40, None)
            spans = Spans(table, told)
            try:
                self.assertIsNone(check_years(spans, order, earliest(spans, order)))
                seen[True] += 1
            except NoDating as error:
                check_numbers(self, told, error.less, error.more)
                self.assertGreater(surplus(told, error.less, error.more), 0)
                for one, other in zip(order, order[1:]):
                    self.assertLessEqual(spans_over(table, told, error.less, one, other),
                                         spans_over(table, told, error.more, one, other))
                seen[False] += 1
        self.assertGreater(min(seen.values()), 5)
        self.assertLess(perf_counter() - begun, SECONDS)

    def test_lists_are_new(self):
        spans = Spans(ABCD, [(0, 3, None), (1, 2, 5)])
        check_new_lists(self, lambda: earliest(spans, list("abcd")))


class LastingTest(unittest.TestCase):
    def check_floor(self, spans, names, found):
        less, more = found.floor
        check_numbers(self, spans.told, less, more)
        self.assertEqual(surplus(spans.told, less, more), found.least)
        self.check_neighbours(spans, names, less, more, 1)

    def check_roof(self, spans, names, found):
        less, more = found.roof
        check_numbers(self, spans.told, less, more)
        self.assertEqual(-surplus(spans.told, less, more), found.most)
        self.check_neighbours(spans, names, more, less, -1)

    def check_neighbours(self, spans, names, ours, theirs, sign):
        """At most 1 (for the roof at least 1) more inside the set, and at most (at least) 0 outside."""
        for order in layouts_of(spans.table):
            for one, other in zip(order, order[1:]):
                inside = one in names and other in names
                many = (spans_over(spans.table, spans.told, ours, one, other)
                        - spans_over(spans.table, spans.told, theirs, one, other))
                if sign == 1:
                    self.assertLessEqual(many, 1 if inside else 0)
                else:
                    self.assertGreaterEqual(many, 1 if inside else 0)

    def check_dating(self, spans, found, years, time, names):
        self.assertIsInstance(years, list)
        self.assertIsNone(check_years(spans, found.order, years))
        self.assertEqual(time_of(found.order, years, names), time)

    def free_neighbours(self, spans, order, names):
        told = [number for number, span in enumerate(spans.told) if span[2] is not None]
        return [{one, other} for one, other in zip(order, order[1:]) if one in names and other in names
                and not spans_over(spans.table, spans.told, told, one, other)]

    def check_lasting(self, spans, names, orders):
        found = lasting(spans, names)
        self.assertIsInstance(found, Lasting)
        self.assertIn(found.order, orders)
        self.assertIsInstance(found.order, list)
        self.check_dating(spans, found, found.short, found.least, names)
        self.check_floor(spans, names, found)
        free = self.free_neighbours(spans, found.order, names)
        self.assertEqual(found.most is None, len(free) > 0)
        if found.most is None:
            self.assertEqual((found.long, found.roof), (None, None))
            self.assertIsInstance(found.gap, tuple)
            self.assertEqual(len(found.gap), 2)
            self.assertIn(set(found.gap), free)
        else:
            self.assertIsNone(found.gap)
            self.check_dating(spans, found, found.long, found.most, names)
            self.check_roof(spans, names, found)
        return found

    def times(self, table, told, order, names):
        """The least and the greatest time of a set in all datings with small years."""
        last = sum(least for _, least, _ in told) + sum(most or 0 for _, _, most in told)
        found = [time_of(order, years, names) for years in datings(len(order), last)
                 if keeps_spans(table, told, order, years)]
        return (min(found), max(found)) if found else None

    def test_example(self):
        spans = Spans(ABCD, [(0, 3, None), (1, 2, 5)])
        found = lasting(spans, ["a", "c", "b"])
        self.assertEqual((found.least, found.floor, found.most), (5, ((0, 1), ()), None))
        self.assertEqual(set(found.gap), {"a", "b"})

    def test_against_all_datings(self):
        random = Random(113)
        seen = {True: 0, False: 0}
        for table, told in tables_with_spans(114, 120, 4, 3):
            spans, orders = Spans(table, told), layouts_of(table)
            for names in subsets(table.columns)[1:]:
                if not all(in_one_piece(names, order) for order in orders):
                    continue
                times = [self.times(table, told, order, names) for order in (orders[0], orders[-1])]
                if times[0] is None:
                    self.assertIsNone(times[1])
                    self.check_none(spans, names)
                    continue
                found = self.check_lasting(spans, random.sample(names, len(names)) + names[:1], orders)
                for least, most in times:
                    self.assertEqual(found.least, least)
                    if found.most is not None:
                        self.assertEqual(found.most, most)
                seen[found.most is None] += 1
        self.assertGreater(min(seen.values()), 50)

    def check_none(self, spans, names):
        with self.assertRaises(NoDating) as caught:
            lasting(spans, names)
        check_no_dating(self, spans.table, spans.told, caught.exception.less, caught.exception.more)

    def test_certificates_with_more_columns(self):
        seen = {True: 0, False: 0}
        for table, told in tables_with_spans(115, 80, 6, 8):
            spans, orders = Spans(table, told), layouts_of(table)
            try:
                earliest(spans, orders[0])
            except NoDating:
                continue
            for names in Tree.of(table).sure_sets() + [table.columns[:1]]:
                seen[self.check_lasting(spans, list(names), orders).most is None] += 1
        self.assertGreater(min(seen.values()), 30)

    def test_sets_of_one_column(self):
        found = lasting(Spans(ABCD, [(0, 3, None), (1, 2, 5)]), ["b", "b"])
        self.assertEqual((found.least, found.floor, found.most, found.roof, found.gap), (0, ((), ()), 0, ((), ()), None))
        self.assertEqual(lasting(Spans(Table.empty("a"), []), ["a"]).long, [0])

    def test_spans_that_are_taken_away(self):
        """Spans whose times are taken away from others in the least and in the greatest time."""
        table = Table(["a", "b", "c"], [["a", "b"], ["b", "c"], ["a", "b", "c"]])
        found = lasting(Spans(table, [(2, 9, 10), (1, 1, 3)]), ["a", "b"])
        self.assertEqual((found.least, found.floor), (6, ((0,), (1,))))
        self.assertEqual((found.most, found.roof), (9, ((1,), (0,))))
        self.assertEqual((found.order, found.short, found.long), (["a", "b", "c"], found.short, found.long))

    def test_errors_in_turn(self):
        broken = Spans(ABCD, [(0, 3, None), (0, 0, 2)])
        check_raises(self, UnknownColumn, {"name": "x"}, lasting, broken, ["a", "x", "y"])
        check_raises(self, UnknownColumn, {"name": "x"}, lasting, Spans(NO_LAYOUT, []), ["x"])
        check_raises(self, BadNumber, {"number": 0}, lasting, broken, [])
        check_raises(self, BadNumber, {"number": 0}, lasting, Spans(NO_LAYOUT, []), [])
        check_raises(self, NoLayout, {"number": 2}, lasting, Spans(NO_LAYOUT, [(0, 3, None), (0, 0, 2)]), ["a"])
        for names in (["a", "c"], ["d", "b"], ["a", "d", "a"], ["c", "d"]):
            with self.assertRaises(NotSure) as caught:
                lasting(broken, names)
            self.assertIn(caught.exception.order, layouts_of(ABCD))
            self.assertFalse(in_one_piece(names, caught.exception.order))
        self.check_none(broken, ["a"])
        self.check_none(broken, ["a", "b"])

    def test_not_sure_in_small_tables(self):
        for table in small_tables(116, 150):
            orders = layouts_of(table)
            for names in subsets(table.columns)[1:] if orders else []:
                if not all(in_one_piece(names, order) for order in orders):
                    with self.assertRaises(NotSure) as caught:
                        lasting(Spans(table, []), names)
                    self.assertIn(caught.exception.order, orders)
                    self.assertFalse(in_one_piece(names, caught.exception.order))

    def test_the_same_for_moved_tables(self):
        random = Random(117)
        for table, told in tables_with_spans(118, 100):
            moved = table.reordered(random.sample(table.columns, len(table.columns)))
            for names in Tree.of(table).sure_sets():
                try:
                    one = lasting(Spans(table, told), names)
                except NoDating:
                    self.check_none(Spans(moved, told), names)
                    break
                other = lasting(Spans(moved, told), names)
                self.assertEqual((one.least, one.most), (other.least, other.most))
                order = layouts_of(moved)[-1]
                self.assertEqual(earliest(Spans(table, told), order), earliest(Spans(moved, told), order))

    def test_twelve_columns(self):
        random = Random(119)
        begun = perf_counter()
        for _ in range(20):
            table = random_table(random, TWELVE, 0).plus(*table_with_layout(random, TWELVE, 48).rows)
            spans = Spans(table, [(at, 0, None if random.random() < 0.5 else 100) for at in range(48) if table[at]][:24])
            for names in Tree.of(table).sure_sets():
                found = lasting(spans, names)
                self.check_dating(spans, found, found.short, found.least, names)
        self.assertLess(perf_counter() - begun, SECONDS)


if __name__ == "__main__":
    unittest.main()
