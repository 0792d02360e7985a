import unittest
from itertools import permutations
from random import Random
from time import perf_counter

from helpers import (TWELVE, check_new_lists, check_raises, in_one_piece, layouts_of, small_tables, subsets,
                     table_with_layout)
from unbrokenrows.errors import BadNumber, BadOrder, NoLayout, NoRing, NotLayout, SameColumn, UnknownColumn
from unbrokenrows.keeping import Kept
from unbrokenrows.patterns import find_pattern, lies_in
from unbrokenrows.questions import Answer
from unbrokenrows.rings import Ring, cut_table, is_ring_layout, ring_pattern, split
from unbrokenrows.rounds import Round
from unbrokenrows.tables import Table
from unbrokenrows.trees import Tree

RING = Table(["a", "b", "c", "d"], [["a", "b"], ["b", "c"], ["d", "a"]])
NO_RING = Table(["a", "b", "c", "d"], [[], ["a", "b"], ["a", "c"], ["b", "c", "d"], ["a", "d"], ["c", "d"]])
SECONDS = 5


def one_piece_round(names, order):
    """True if the columns stand side by side in the order, begun at one place or another."""
    return any(in_one_piece(names, order[at:] + order[:at]) for at in range(max(1, len(order))))


def ring_layouts_of(table):
    """All ring layouts in ascending order, all orders being tried."""
    orders = [list(order) for order in permutations(table.columns)]
    return [order for order in orders if tuple(order[:1]) == table.columns[:1]
            and all(one_piece_round(row, order) for row in table.rows)]


def tables_of_rounds(seed, many, most_columns=5):
    """Tables whose rows stand in one piece on a hidden ring, so that they have ring layouts."""
    random = Random(seed)
    found = []
    for _ in range(many):
        columns = random.sample(TWELVE[:most_columns], random.randint(0, most_columns))
        table = table_with_layout(random, columns, random.randint(0, 4))
        for name in random.sample(columns, min(2, len(columns))):
            table = table.turned(name)
        found.append(table)
    return found


def tables(seed, many):
    return crowded_tables(seed, many // 2) + small_tables(seed, many // 2) + tables_of_rounds(seed, many // 2)


def crowded_tables(seed, many):
    """Tables of five columns with few or no ring layouts."""
    random = Random(seed)
    columns = [random.sample(TWELVE[:5], 5) for _ in range(many)]
    return [Table(names, [random.sample(names, random.choice([2, 3])) for _ in range(random.randint(3, 6))])
            for names in columns]


class RingLayoutTest(unittest.TestCase):
    def test_all_orders(self):
        for table in tables(310, 150):
            expected = ring_layouts_of(table)
            for order in permutations(table.columns):
                self.assertIs(is_ring_layout(table, list(order)), list(order) in expected)
                self.assertIs(is_ring_layout(table, order), list(order) in expected)

    def test_lists_that_are_no_orders(self):
        for order in [[], ["a"], ["a", "b", "c"], ["a", "b", "c", "c"], ["a", "b", "c", "x"], ["a", "b", "c", "d", "e"],
                      ["a", "b", "c", "d", "a"], ["b", "c", "d", "a"], ["d", "c", "b", "a"], ["", "b", "c", "d"]]:
            self.assertIs(is_ring_layout(RING, order), False)
            self.assertIs(order in Ring.of(RING), False)
        self.assertIs(is_ring_layout(Table.empty(), ["a"]), False)
        self.assertIs(is_ring_layout(Table.empty(), []), True)

    def test_every_row_of_one_ring(self):
        order = ["a", "b", "c", "d", "e"]
        for names in subsets(order):
            table = Table(order, [names])
            self.assertIs(is_ring_layout(table, order), one_piece_round(names, order))
            self.assertIs(is_ring_layout(~table, order), is_ring_layout(table, order))

    def test_moved_layouts_are_ring_layouts(self):
        for table in small_tables(311, 200):
            for order in layouts_of(table):
                at = order.index(table.columns[0]) if order else 0
                self.assertTrue(is_ring_layout(table, order[at:] + order[:at]))


class CutTableTest(unittest.TestCase):
    def test_words_of_the_document(self):
        for table in small_tables(312, 200):
            for name in table.columns:
                cut = cut_table(table, name)
                others = [other for other in table.columns if other != name]
                self.assertTrue(cut == table.turned(name).only(others))
                self.assertEqual(cut.columns, tuple(others))
                self.assertEqual(len(cut), len(table))

    def test_layouts_at_each_column(self):
        for table in tables(313, 120):
            orders = ring_layouts_of(table)
            for name in table.columns:
                cuts = [Round(order).cut(name) for order in orders]
                self.assertEqual(sorted(cuts), sorted(layouts_of(cut_table(table, name))))
                self.assertEqual(len({tuple(cut) for cut in cuts}), len(orders))

    def test_unknown_column(self):
        for name in ("x", "", "ab"):
            check_raises(self, UnknownColumn, {"name": name}, cut_table, RING, name)
            check_raises(self, UnknownColumn, {"name": name}, ring_pattern, RING, name)
            check_raises(self, UnknownColumn, {"name": name}, ring_pattern, NO_RING, name)
            check_raises(self, UnknownColumn, {"name": name}, Ring.of(RING).cut, name)

    def test_told_orders_round_the_ring(self):
        table = Table(["a", "b", "c", "d", "e"], [["a", "b"], ["c", "d"]])
        kept = Kept(cut_table(table, "c"), [("e", "a")])
        expected = [Round(order).cut("c") for order in ring_layouts_of(table)]
        expected = sorted(order for order in expected if order.index("e") < order.index("a"))
        self.assertEqual(list(kept.kept_layouts()), expected)


class RingPatternTest(unittest.TestCase):
    def test_pattern_or_ring_layout(self):
        seen = [0, 0]
        for table in tables(314, 200):
            expected = bool(ring_layouts_of(table))
            for name in table.columns:
                pattern = ring_pattern(table, name)
                seen[expected] += 1
                self.assertIs(pattern is None, expected)
                if pattern is not None:
                    self.assertTrue(lies_in(cut_table(table, name), pattern))
        self.assertGreater(min(seen), 100)

    def test_greater_tables(self):
        random = Random(315)
        for _ in range(20):
            rows = [random.sample(TWELVE, random.randint(2, 6)) for _ in range(random.randint(3, 48))]
            table = Table(TWELVE, rows)
            pattern = ring_pattern(table, random.choice(TWELVE))
            found = [find_pattern(cut_table(table, name)) is None for name in TWELVE]
            self.assertEqual(found, [pattern is None] * 12)


class RingTest(unittest.TestCase):
    def test_all_orders(self):
        for table in tables(316, 200):
            orders = ring_layouts_of(table)
            if not orders:
                number = min(number for number in range(len(table))
                             if not ring_layouts_of(Table(table.columns, table.rows[:number + 1])))
                check_raises(self, NoRing, {"number": number}, Ring.of, table)
                continue
            ring = Ring.of(table)
            self.assertEqual(ring.columns, table.columns)
            self.assertEqual((ring.count(), ring.first()), (len(orders), orders[0]))
            self.assertEqual(list(ring.ring_layouts()), orders)
            for number, order in enumerate(orders):
                self.assertEqual((ring.kth(number), ring.rank(order), ring.rank(tuple(order))), (order, number, number))
            for number in (-1, len(orders), 10 ** 9, -10 ** 9):
                check_raises(self, BadNumber, {"number": number}, ring.kth, number)

    def test_in_and_rank_of_every_order(self):
        for table in tables(317, 60):
            if ring_layouts_of(table):
                ring, orders = Ring.of(table), ring_layouts_of(table)
                for order in permutations(table.columns):
                    self.assertIs(list(order) in ring, list(order) in orders)
                    self.assertIs(order in ring, list(order) in orders)
                    if list(order) not in orders:
                        check_raises(self, NotLayout, {}, ring.rank, list(order))

    def test_wrong_orders(self):
        ring = Ring.of(RING)
        for order, index in [([], 0), (["a"], 1), (["a", "b", "b", "c"], 2), (["e", "a"], 0), (["a", "b", "c"], 3),
                             (["a", "b", "c", "d", "e"], 4), (["a", "b", "c", "d", "a"], 4), (["b", "c", "x"], 2)]:
            check_raises(self, BadOrder, {"index": index}, ring.rank, order)
        for order in ["bcda", "acbd", "dcba"]:
            check_raises(self, NotLayout, {}, ring.rank, list(order))

    def test_cut(self):
        for table in tables(318, 100):
            if ring_layouts_of(table):
                ring = Ring.of(table)
                for name in table.columns:
                    self.assertTrue(ring.cut(name) == Tree.of(cut_table(table, name)))
                    self.assertEqual(ring.cut(name).count(), ring.count())

    def test_is_sure(self):
        for table in tables(319, 100):
            orders = ring_layouts_of(table)
            if orders:
                ring = Ring.of(table)
                for names in subsets(table.columns):
                    expected = all(one_piece_round(names, order) for order in orders)
                    self.assertIs(ring.is_sure(names), expected)
                    self.assertIs(ring.is_sure(tuple(names[::-1] + names[:2])), expected)
        for names, name in [(["x"], "x"), (["a", "y", "x"], "y"), (["a", "a", ""], "")]:
            check_raises(self, UnknownColumn, {"name": name}, Ring.of(RING).is_sure, names)

    def test_equal(self):
        found = [table.reordered(TWELVE[:4]) for table in tables_of_rounds(320, 100, 4) if len(table.columns) == 4]
        found += [~table for table in found]
        for one in found:
            for other in found:
                same = ring_layouts_of(one) == ring_layouts_of(other)
                self.assertIs(Ring.of(one) == Ring.of(other), same)
        table = Table(TWELVE[:4], [["b", "c"], ["c", "d"]])
        self.assertFalse(Ring.of(table) == Ring.of(table.reordered(["a", "b", "d", "c"])))
        self.assertFalse(Ring.of(Table.empty("a", "b")) == Ring.of(Table.empty("b", "a")))
        self.assertFalse(Ring.of(Table.empty("a", "b")) == Ring.of(Table.empty("a")))

    def test_rows_up_to_the_number_have_no_ring_layout(self):
        check_raises(self, NoRing, {"number": 3}, Ring.of,
                     Table(["a", "b", "c", "d"], [["a", "b"], [], ["b", "c"], ["a", "c"], ["d"]]))
        self.assertFalse(issubclass(NoRing, NoLayout))

    def test_few_columns(self):
        for columns, orders in [([], [[]]), (["b"], [["b"]]), (["b", "a"], [["b", "a"]])]:
            for rows in ([], [[]], [columns], [columns[:1], columns[1:], []]):
                ring = Ring.of(Table(columns, rows))
                self.assertEqual(ring.columns, tuple(columns))
                self.assertEqual((ring.count(), ring.first(), ring.kth(0), ring.rank(orders[0])),
                                 (1, orders[0], orders[0], 0))
                self.assertEqual(list(ring.ring_layouts()), orders)
                self.assertTrue(orders[0] in ring and ring == Ring.of(Table(columns)))
                self.assertEqual([ring.is_sure([]), ring.is_sure(columns)], [True, True])
                self.assertEqual([str(ring.cut(name)) for name in columns], ["()"] if len(columns) == 1
                                 else columns[::-1])
        self.assertIs(["a"] in Ring.of(Table.empty()), False)
        check_raises(self, BadNumber, {"number": 1}, Ring.of(Table.empty()).kth, 1)
        check_raises(self, UnknownColumn, {"name": "a"}, Ring.of(Table.empty()).cut, "a")
        check_raises(self, UnknownColumn, {"name": "a"}, Ring.of(Table.empty()).is_sure, ["a"])
        check_raises(self, BadOrder, {"index": 0}, Ring.of(Table.empty()).rank, ["a"])

    def test_walks(self):
        table = Table.empty("a", "b", "c", "d")
        ring, orders = Ring.of(table), ring_layouts_of(table)
        one, other = ring.ring_layouts(), ring.ring_layouts()
        self.assertEqual(next(one), orders[0])
        self.assertEqual(list(other), orders)
        self.assertEqual(next(one), orders[1])
        found = []
        for order in ring.ring_layouts():
            found.append(list(order))
            order.clear()
        self.assertEqual(found, orders)
        for make in (ring.first, lambda: ring.kth(3), lambda: list(ring.ring_layouts())):
            check_new_lists(self, make)

    def test_twelve_columns(self):
        begun = perf_counter()
        ring = Ring.of(Table.empty(*TWELVE))
        self.assertEqual(ring.count(), 39916800)
        self.assertEqual(ring.kth(39916799), ["a", *TWELVE[:0:-1]])
        self.assertEqual(ring.rank(ring.kth(23456789)), 23456789)
        self.assertTrue(ring.kth(23456789) in ring)
        self.assertEqual([order for order, _ in zip(ring.ring_layouts(), range(2))],
                         [TWELVE, TWELVE[:10] + ["l", "k"]])
        self.assertTrue(ring.is_sure(TWELVE[1:]) and ring.is_sure(["f"]) and not ring.is_sure(["a", "b"]))
        self.assertEqual(split(ring, "a", "l", "c", "d").word, "open")
        self.assertEqual(ring.cut("g").count(), 39916800)
        self.assertLess(perf_counter() - begun, SECONDS)

    def test_greater_tables(self):
        begun = perf_counter()
        random = Random(321)
        for _ in range(20):
            table = table_with_layout(random, TWELVE, 48)
            for name in random.sample(TWELVE, 3):
                table = table.turned(name)
            ring = Ring.of(table)
            for number in random.sample(range(ring.count()), min(3, ring.count())):
                order = ring.kth(number)
                self.assertTrue(all(one_piece_round(row, order) for row in table.rows))
                self.assertEqual(ring.rank(order), number)
        self.assertLess(perf_counter() - begun, SECONDS)


class SplitTest(unittest.TestCase):
    def test_all_ring_layouts(self):
        words = set()
        for table in tables(322, 200):
            orders = ring_layouts_of(table)
            for four in permutations(table.columns, 4) if orders else []:
                answer = split(Ring.of(table), *four)
                self.assertIsInstance(answer, Answer)
                ways = [Round(order).splits(*four) for order in orders]
                self.assertEqual(answer.word, "open" if len(set(ways)) == 2 else "always" if ways[0] else "never")
                words.add(answer.word)
                for order, way in ((answer.yes, True), (answer.no, False)):
                    self.assertEqual(order is not None, way in ways)
                    if order is not None:
                        self.assertIsInstance(order, list)
                        self.assertEqual((order in orders, Round(order).splits(*four)), (True, way))
        self.assertEqual(sorted(words), ["always", "never", "open"])

    def test_the_other_way(self):
        for table in tables(323, 60):
            for p, q, r, s in permutations(table.columns, 4) if ring_layouts_of(table) else []:
                ring = Ring.of(table)
                self.assertEqual(split(ring, p, q, r, s).word, split(ring, r, s, p, q).word)

    def test_wrong_columns(self):
        ring = Ring.of(RING)
        for told, name in [("xbcy", "x"), ("aaxy", "x"), ("aabx", "x"), ("abcx", "x")]:
            check_raises(self, UnknownColumn, {"name": name}, split, ring, *told)
        for told, name in [("aabc", "a"), ("abab", "a"), ("abbc", "b"), ("abcc", "c"), ("abba", "b")]:
            check_raises(self, SameColumn, {"name": name}, split, ring, *told)
        check_raises(self, UnknownColumn, {"name": "a"}, split, Ring.of(Table.empty()), "a", "a", "a", "a")


if __name__ == "__main__":
    unittest.main()
