import unittest
from itertools import combinations_with_replacement, permutations
from random import Random

from helpers import TWELVE, check_new_lists, check_raises, keeps_pairs, keeps_windows, random_windows
from unbrokenrows.errors import BadOrder, BadWindow, NoDates
from unbrokenrows.tables import Table
from unbrokenrows.windows import Windows

ABC = Table(["a", "b", "c"], [["a", "c"]])
TOLD = [("c", 10, 20), ("a", 15, 40), ("b", 30, 35)]


class MakeTest(unittest.TestCase):
    def test_attributes(self):
        told = [list(window) for window in TOLD]
        windows = Windows(ABC, told)
        told[0][1] = 11
        told.pop()
        self.assertEqual((windows.table, windows.told), (ABC, tuple(TOLD)))
        self.assertTrue(all(isinstance(window, tuple) for window in windows.told))
        self.assertEqual(Windows(ABC, ()).told, ())
        for low, high in [(0, 0), (-10 ** 6, 10 ** 6), (10 ** 6, 10 ** 6), (-10 ** 6, -10 ** 6), (-7, -3)]:
            self.assertEqual(Windows(ABC, [("a", low, high)]).told, (("a", low, high),))

    def test_wrong_windows(self):
        for window in [("x", 0, 1), ("", 0, 1), ("ab", 0, 1), ("b", 1, 0), ("b", -10 ** 6 - 1, 0), ("b", 0, 10 ** 6 + 1),
                       ("b", 10 ** 6 + 1, 10 ** 6 + 1), ("b", -10 ** 9, 10 ** 9), ("b", -1, -2), ("a", 0, 1),
                       ("a", 15, 40), ("c", 5, 6), ("b", -10 ** 6 - 2, -10 ** 6 - 1)]:
            check_raises(self, BadWindow, {"index": 2}, Windows, ABC, TOLD[:2] + [window, ("x", 1, 0)])
        check_raises(self, BadWindow, {"index": 0}, Windows, Table([]), [("a", 0, 1)])
        check_raises(self, BadWindow, {"index": 3}, Windows, ABC, TOLD + [("a", 1, 2)])
        check_raises(self, BadWindow, {"index": 1}, Windows, ABC, [("a", 0, 1), ("a", 1, 0), ("x", 0, 1)])


class ForcedTest(unittest.TestCase):
    def test_example(self):
        windows = Windows(Table.empty("a", "b", "c"), TOLD)
        self.assertEqual([windows.forced(), windows.dates(["c", "a", "b"])], [[("c", "b")], [10, 15, 30]])
        check_new_lists(self, windows.forced)

    def test_touching_windows_force_nothing(self):
        self.assertEqual(Windows(ABC, [("a", 0, 5), ("b", 5, 9)]).forced(), [])
        self.assertEqual(Windows(ABC, [("a", 0, 5), ("b", 6, 9)]).forced(), [("a", "b")])
        self.assertEqual(Windows(ABC, [("b", -9, -6), ("a", -5, -5)]).forced(), [("b", "a")])

    def test_ascending(self):
        windows = Windows(Table.empty("c", "a", "b"), [("b", 0, 1), ("a", 4, 5), ("c", 2, 3)])
        self.assertEqual(windows.forced(), [("c", "a"), ("b", "c"), ("b", "a")])
        random = Random(120)
        for _ in range(200):
            columns = random.sample(TWELVE, 6)
            told = random_windows(random, columns, 6)
            highs = {name: high for name, _, high in told}
            lows = {name: low for name, low, _ in told}
            self.assertEqual(Windows(Table(columns), told).forced(),
                             [(a, b) for a, b in permutations(columns, 2) if a in highs and b in lows
                              and highs[a] < lows[b]])

    def test_twelve_columns(self):
        windows = Windows(Table(TWELVE[::-1]), [(name, at, at) for at, name in enumerate(TWELVE)])
        self.assertEqual(len(windows.forced()), 66)
        self.assertEqual(windows.dates(TWELVE), list(range(12)))


class KeepsTest(unittest.TestCase):
    def test_years(self):
        windows = Windows(ABC, [("c", 10, 20), ("b", 15, 40)])
        for order, years, expected in [
                ("abc", [0, 15, 20], True), ("abc", [0, 15, 21], False), ("abc", [0, 14, 20], False),
                ("abc", [16, 15, 20], False), ("cab", [10, 10, 41], False), ("cab", [10, 1000, 40], False),
                ("cab", [10, 40, 40], True), ("cab", [9, 40, 40], False), ("cab", [10, 40], False), ("cab", [], False),
                ("cab", [10, 40, 40, 40], False), ("acb", [-10 ** 9, 20, 20], True), ("bca", [15, 15, 10 ** 9], True)]:
            self.assertIs(windows.keeps(list(order), years), expected)
            self.assertIs(windows.keeps(tuple(order), tuple(years)), expected)

    def test_not_a_layout(self):
        """Windows look at any order, and at the rows not at all."""
        windows = Windows(ABC, [("c", 10, 20)])
        self.assertIs(windows.keeps(["a", "b", "c"], [1, 2, 12]), True)
        self.assertEqual(windows.dates(["a", "b", "c"]), [10, 10, 10])

    def test_without_windows(self):
        windows = Windows(ABC, [])
        self.assertIs(windows.keeps(["a", "b", "c"], [1, 1, 5]), True)
        self.assertIs(windows.keeps(["a", "b", "c"], [1, 0, 5]), False)
        self.assertIs(Windows(Table([]), []).keeps([], []), True)
        self.assertIs(Windows(Table([]), []).keeps([], [1]), False)

    def test_bad_orders(self):
        windows = Windows(ABC, TOLD)
        for order, index in [("", 0), ("ab", 2), ("aab", 1), ("abx", 2), ("abca", 3), ("abcx", 3)]:
            check_raises(self, BadOrder, {"index": index}, windows.keeps, list(order), [0])
            check_raises(self, BadOrder, {"index": index}, windows.dates, list(order))


class DatesTest(unittest.TestCase):
    def test_years(self):
        windows = Windows(Table.empty("a", "b", "c", "d"), [("b", 7, 30), ("d", -4, 20), ("c", 5, 9)])
        self.assertEqual(windows.dates(["a", "d", "c", "b"]), [-4, -4, 5, 7])
        self.assertEqual(windows.dates(["b", "a", "d", "c"]), [7, 7, 7, 7])
        self.assertEqual(windows.dates(["a", "c", "d", "b"]), [-4, 5, 5, 7])
        self.assertEqual(Windows(ABC, []).dates(["b", "a", "c"]), [0, 0, 0])
        self.assertEqual(Windows(Table([]), []).dates([]), [])
        self.assertEqual(Windows(ABC, [("c", 3, 4)]).dates(["a", "b", "c"]), [3, 3, 3])
        check_new_lists(self, lambda: windows.dates(["a", "d", "c", "b"]))

    def test_exactly_if_forced_pairs_are_kept(self):
        random = Random(121)
        seen = {True: 0, False: 0}
        for _ in range(60):
            columns = random.sample(TWELVE, random.randint(0, 4))
            told = random_windows(random, columns, random.randint(0, 4), 2)
            windows = Windows(Table(columns), told)
            forced = windows.forced()
            for order in permutations(columns):
                possible = any(keeps_windows(told, order, years)
                               for years in combinations_with_replacement(range(-2, 6), len(columns)))
                self.assertIs(keeps_pairs(order, forced), possible)
                seen[possible] += 1
                if possible:
                    years = windows.dates(order)
                    self.assertTrue(windows.keeps(order, years))
                else:
                    self.check_no_dates(windows, order)
        self.assertGreater(min(seen.values()), 50)

    def check_no_dates(self, windows, order):
        with self.assertRaises(NoDates) as caught:
            windows.dates(order)
        one, other = caught.exception.one, caught.exception.other
        self.assertEqual(vars(caught.exception), {"one": one, "other": other})
        self.assertIn((other, one), windows.forced())
        self.assertLess(order.index(one), order.index(other))

    def test_no_dates(self):
        windows = Windows(ABC, TOLD)
        check_raises(self, NoDates, {"one": "b", "other": "c"}, windows.dates, ["b", "a", "c"])
        check_raises(self, NoDates, {"one": "b", "other": "c"}, windows.dates, ("a", "b", "c"))


if __name__ == "__main__":
    unittest.main()
