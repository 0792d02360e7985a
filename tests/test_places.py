import unittest
from fractions import Fraction
from itertools import permutations
from random import Random
from time import perf_counter

from helpers import (TWELVE, check_new_lists, check_raises, kept_of, pairs_of_order, small_tables_with_pairs,
                     table_of_form)
from unbrokenrows.errors import BadWeight, SameColumn, UnknownColumn
from unbrokenrows.keeping import Kept
from unbrokenrows.places import Far, far, mean_place, places, share_before
from unbrokenrows.shares import Share
from unbrokenrows.tables import Table
from unbrokenrows.trees import Tree

KEPT = Kept(Table(["a", "b", "c", "d"], [["a", "b"], ["b", "c"]]), [("c", "a")])
SECONDS = 5


def kept_and_layouts(seed, many):
    """Kept layouts of small tables and of tables with firm pieces inside each other, with all orders."""
    found = [(table, pairs, kept_of(table, pairs)) for table, pairs in small_tables_with_pairs(seed, many)]
    found = [(Kept(table, pairs), orders) for table, pairs, orders in found if orders]
    random = Random(seed)
    for _ in range(many // 8):
        table = table_of_form(random, 7)
        kept = Kept(table, pairs_of_order(random, Tree.of(table).first(), random.choice([0, 1, 1, 2, 3])))
        found.append((kept, kept_of(table, kept.pairs)))
    return found


def distance(order, a, b, weights):
    low, high = sorted([order.index(a), order.index(b)])
    return sum((weights or {}).get(name, 1) for name in order[low + 1:high])


class PlacesTest(unittest.TestCase):
    def test_all_layouts(self):
        for kept, orders in kept_and_layouts(100, 400):
            for name in kept.table.columns:
                found = places(kept, name)
                self.assertIsInstance(found, list)
                self.assertEqual(found, sorted({order.index(name) for order in orders}))

    def test_example(self):
        self.assertEqual(places(KEPT, "c"), [0, 1])
        self.assertEqual(places(Kept(Table.empty("a")), "a"), [0])
        check_new_lists(self, lambda: places(KEPT, "c"))

    def test_blocks_of_several_columns(self):
        kept = Kept(Table(TWELVE, [TWELVE[1:4], TWELVE[4:9], TWELVE[9:12]]))
        self.assertEqual(places(kept, "a"), [0, 3, 5, 6, 8, 11])
        self.assertEqual(places(Kept(kept.table, ["ae"]), "a"), [0, 3, 6])
        self.assertEqual(places(Kept(kept.table, ["ea"]), "a"), [5, 8, 11])

    def test_unknown_column(self):
        for name in ("x", "", "ab", "A"):
            check_raises(self, UnknownColumn, {"name": name}, places, KEPT, name)
            check_raises(self, UnknownColumn, {"name": name}, mean_place, KEPT, name)

    def test_twelve_columns(self):
        begun = perf_counter()
        self.assertEqual(places(Kept(Table.empty(*TWELVE)), "f"), list(range(12)))
        kept = Kept(Table.empty(*TWELVE), ["fa", "fb", "cf"])
        self.assertEqual([places(kept, name) for name in "fac"],
                         [list(range(1, 10)), list(range(2, 12)), list(range(9))])
        self.assertLess(perf_counter() - begun, SECONDS)


class FarTest(unittest.TestCase):
    def check_far(self, kept, orders, a, b, weights):
        found = far(kept, a, b, weights)
        self.assertIsInstance(found, Far)
        told = [distance(order, a, b, weights) for order in orders]
        self.assertEqual((found.least, found.most), (min(told), max(told)))
        for order, expected in ((found.near, found.least), (found.wide, found.most)):
            self.assertIsInstance(order, list)
            self.assertIn(order, orders)
            self.assertEqual(distance(order, a, b, weights), expected)

    def test_all_layouts(self):
        random = Random(101)
        for kept, orders in kept_and_layouts(102, 320):
            columns = kept.table.columns
            for a, b in permutations(columns, 2):
                names = random.sample(columns, random.randint(0, len(columns)))
                weights = {name: random.choice([0, 0, 1, 2, 7, 999]) for name in names}
                self.check_far(kept, orders, a, b, random.choice([None, {}, weights, weights]))

    def test_example(self):
        found = far(KEPT, "a", "d", {"b": 5})
        self.assertEqual([found.least, found.most], [0, 6])

    def test_weights(self):
        for weights, most in [(None, 2), ({}, 2), ({"b": 0}, 1), ({"b": 999, "c": 999}, 1998), ({"a": 999}, 2),
                              ({"d": 0, "b": 0, "c": 0}, 0)]:
            self.assertEqual(far(KEPT, "a", "d", weights).most, most)
        weights = {"b": 5}
        far(KEPT, "a", "d", weights)
        self.assertEqual(weights, {"b": 5})

    def test_errors_in_turn(self):
        wrong = {"x": 1, "b": 1000}
        check_raises(self, UnknownColumn, {"name": "x"}, far, KEPT, "x", "y", wrong)
        check_raises(self, UnknownColumn, {"name": "y"}, far, KEPT, "a", "y", wrong)
        check_raises(self, UnknownColumn, {"name": "x"}, far, KEPT, "x", "x")
        check_raises(self, SameColumn, {"name": "a"}, far, KEPT, "a", "a", wrong)
        for weights, name in [(wrong, "x"), ({"a": 0, "b": 1000, "x": 1}, "b"), ({"c": -1}, "c"), ({"": 0}, ""),
                              ({"a": 999, "d": 10 ** 9}, "d"), ({"a": 1, "b": -10 ** 9}, "b")]:
            check_raises(self, BadWeight, {"name": name}, far, KEPT, "a", "d", weights)

    def test_answers_are_new(self):
        found = far(KEPT, "a", "d")
        before = (list(found.near), list(found.wide))
        found.near.clear()
        found.wide.clear()
        again = far(KEPT, "a", "d")
        self.assertEqual((again.near, again.wide), before)

    def test_twelve_columns(self):
        begun = perf_counter()
        weights = {name: at * at for at, name in enumerate(TWELVE)}
        free = far(Kept(Table.empty(*TWELVE)), "a", "l", weights)
        self.assertEqual((free.least, free.most), (0, 385))
        kept = Kept(Table.empty(*TWELVE), ["ab", "bl", "ac", "dl", "la"][:4])
        found = far(kept, "a", "l", weights)
        self.assertEqual((found.least, found.most), (1, 385))
        self.assertTrue(found.near in kept and found.wide in kept)
        turned = far(Kept(Table.empty(*TWELVE), ["ab", "bl", "cb"]), "c", "l")
        self.assertEqual((turned.least, turned.most), (1, 10))
        firm = Kept(Table(TWELVE, [TWELVE[at:at + 2] for at in range(0, 8)]))
        self.assertEqual([far(firm, "a", "i").least, far(firm, "a", "i").most, far(firm, "a", "l").most], [7, 7, 10])
        self.assertLess(perf_counter() - begun, SECONDS)


class ShareTest(unittest.TestCase):
    def check_share(self, share, many, of):
        self.assertIsInstance(share, Share)
        self.assertEqual(Fraction(share.num, share.den), Fraction(many, of))
        self.assertTrue(share == Share(many, of))

    def test_all_layouts(self):
        for kept, orders in kept_and_layouts(103, 400):
            columns = kept.table.columns
            for a, b in permutations(columns, 2):
                many = sum(order.index(a) < order.index(b) for order in orders)
                self.check_share(share_before(kept, a, b), many, len(orders))
            for name in columns:
                self.check_share(mean_place(kept, name), sum(order.index(name) for order in orders), len(orders))
                others = [share_before(kept, other, name) for other in columns if other != name]
                self.assertTrue(Share.total(others) == mean_place(kept, name))

    def test_example(self):
        self.assertEqual([str(share_before(KEPT, "a", "d")), str(mean_place(KEPT, "b"))], ["1/2", "3/2"])
        self.assertEqual([str(share_before(KEPT, "c", "a")), str(share_before(KEPT, "a", "c"))], ["1", "0"])
        self.assertEqual(str(mean_place(Kept(Table.empty("a")), "a")), "0")

    def test_errors_in_turn(self):
        check_raises(self, UnknownColumn, {"name": "x"}, share_before, KEPT, "x", "y")
        check_raises(self, UnknownColumn, {"name": "y"}, share_before, KEPT, "a", "y")
        check_raises(self, UnknownColumn, {"name": "y"}, share_before, KEPT, "y", "y")
        check_raises(self, SameColumn, {"name": "b"}, share_before, KEPT, "b", "b")

    def test_twelve_columns(self):
        begun = perf_counter()
        kept = Kept(Table.empty(*TWELVE), ["ab", "bc"])
        self.assertEqual([str(share_before(kept, "a", name)) for name in "bcd"], ["1", "1", "3/4"])
        self.assertEqual([str(mean_place(kept, name)) for name in "abcd"], ["9/4", "11/2", "35/4", "11/2"])
        self.assertEqual(str(mean_place(Kept(Table.empty(*TWELVE)), "g")), "11/2")
        pairs = pairs_of_order(Random(104), TWELVE, 200)
        self.assertEqual(str(Share.total([mean_place(Kept(Table.empty(*TWELVE), pairs), name) for name in TWELVE])), "66")
        self.assertLess(perf_counter() - begun, SECONDS)


if __name__ == "__main__":
    unittest.main()
