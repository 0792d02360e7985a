import unittest
from itertools import permutations
from random import Random
from time import perf_counter

from helpers import (TWELVE, check_no_dating, check_raises, datings, keeps_spans, kept_of, pairs_of_order, random_spans,
                     small_tables_with_pairs, table_of_form, table_with_layout)
from unbrokenrows.between import Apart, apart
from unbrokenrows.errors import BadSpan, NoDating, SameColumn, UnknownColumn
from unbrokenrows.keeping import Kept
from unbrokenrows.spans import Spans, check_years, earliest, lasting
from unbrokenrows.tables import Table
from unbrokenrows.trees import Tree

KEPT = Kept(Table(["a", "b", "c", "d"], [["a", "b"], ["b", "c"]]), [("c", "a")])
SECONDS = 5


def years_of(order, years, a, b):
    return abs(years[order.index(a)] - years[order.index(b)])


def times_in(table, told, order, a, b):
    """The least and the greatest number of years in one layout; by all sums of ways between two places."""
    many, none = len(order), -10 ** 12
    sums = [[0 if one == other else none for other in range(many)] for one in range(many)]
    for at in range(1, many):
        sums[at - 1][at] = 0
    for number, least, most in told:
        places = sorted(order.index(name) for name in table[number])
        sums[places[0]][places[-1]] = max(sums[places[0]][places[-1]], least)
        if most is not None:
            sums[places[-1]][places[0]] = max(sums[places[-1]][places[0]], -most)
    for middle in range(many):
        for one in range(many):
            for other in range(many):
                sums[one][other] = max(sums[one][other], sums[one][middle] + sums[middle][other])
    low, high = sorted([order.index(a), order.index(b)])
    return sums[low][high], None if sums[high][low] < none // 2 else -sums[high][low]


class ApartTest(unittest.TestCase):
    def check_apart(self, kept, told, orders, a, b, times):
        found = apart(kept, told, a, b)
        self.assertIsInstance(found, Apart)
        self.assertEqual(found.least, min(least for least, _ in times))
        most = None if any(most is None for _, most in times) else max(most for _, most in times)
        self.assertEqual(found.most, most)
        self.check_dated(kept, told, orders, a, b, found.near, found.least)
        if most is None:
            self.assertIsNone(found.wide)
        else:
            self.check_dated(kept, told, orders, a, b, found.wide, most)
        return most is None

    def check_dated(self, kept, told, orders, a, b, pair, expected):
        self.assertIsInstance(pair, tuple)
        order, years = pair
        self.assertIsInstance(order, list)
        self.assertIsInstance(years, list)
        self.assertIn(order, orders)
        self.assertIsNone(check_years(Spans(kept.table, told), order, years))
        self.assertEqual(years_of(order, years, a, b), expected)

    def check_all(self, kept, told, orders):
        """All pairs of columns against all kept layouts; the number of those without a greatest number."""
        endless = 0
        for a, b in permutations(kept.table.columns, 2):
            times = [times_in(kept.table, told, order, a, b) for order in orders]
            endless += self.check_apart(kept, told, orders, a, b, times)
        return endless

    def test_example(self):
        one = apart(KEPT, [(0, 3, 4), (1, 2, 5)], "a", "c")
        other = apart(KEPT, [(0, 3, 4), (1, 2, 5)], "b", "d")
        self.assertEqual([one.least, one.most, other.least, other.most, other.wide], [5, 9, 2, None, None])

    def test_small_tables(self):
        random = Random(140)
        seen = {"endless": 0, "ends": 0, "none": 0}
        for table, pairs in small_tables_with_pairs(141, 300):
            orders = kept_of(table, pairs)
            if not orders or len(table.columns) < 2:
                continue
            rows = [table.columns] if random.random() < 0.6 else []
            kept = Kept(table.plus(*rows), pairs)
            told = random_spans(random, kept.table, random.randint(0, 5))
            told += [(len(table), 0, random.randint(3, 9))] if rows else []
            try:
                earliest(Spans(kept.table, told), orders[0])
            except NoDating:
                self.check_none(kept, told)
                seen["none"] += 1
                continue
            endless = self.check_all(kept, told, orders)
            seen["endless" if endless else "ends"] += 1
        self.assertGreater(min(seen.values()), 20)

    def test_firm_pieces_inside_each_other(self):
        random = Random(142)
        for _ in range(40):
            table = table_of_form(random, 6)
            table = table.plus(table.columns)
            kept = Kept(table, pairs_of_order(random, Tree.of(table).first(), random.choice([0, 0, 1, 2])))
            told = [(number, random.randint(0, 3), random.randint(5, 9)) for number in range(len(table))]
            told[-1] = (len(table) - 1, 0, random.choice([None, 30]))
            self.check_all(kept, told[-24:], kept_of(table, kept.pairs))

    def test_against_all_datings(self):
        random = Random(143)
        for _ in range(40):
            columns = random.sample(TWELVE, 3)
            table = table_with_layout(random, columns, 2).plus(columns)
            told = random_spans(random, table, 2) + [(2, 0, 7)]
            kept = Kept(table)
            orders = kept_of(table, [])
            every = [(order, years) for order in orders for years in datings(3, 12)
                     if keeps_spans(table, told, order, years)]
            if every:
                for a, b in permutations(columns, 2):
                    found = [years_of(order, years, a, b) for order, years in every]
                    times = [(min(found), max(found))]
                    self.check_apart(kept, told, orders, a, b, times)

    def check_none(self, kept, told):
        a, b = kept.table.columns[:2]
        with self.assertRaises(NoDating) as caught:
            apart(kept, told, a, b)
        check_no_dating(self, kept.table, told, caught.exception.less, caught.exception.more)

    def test_errors_in_turn(self):
        broken = [(0, 5, None), (0, 0, 4)]
        check_raises(self, BadSpan, {"index": 0}, apart, KEPT, [(2, 0, 1)], "x", "y")
        check_raises(self, BadSpan, {"index": 24}, apart, KEPT, [(0, 0, 1)] * 25, "x", "y")
        check_raises(self, BadSpan, {"index": 1}, apart, KEPT, [(0, 0, 1), (0, 1, 0)], "a", "a")
        check_raises(self, UnknownColumn, {"name": "x"}, apart, KEPT, broken, "x", "y")
        check_raises(self, UnknownColumn, {"name": "y"}, apart, KEPT, broken, "a", "y")
        check_raises(self, UnknownColumn, {"name": "x"}, apart, KEPT, broken, "x", "x")
        check_raises(self, SameColumn, {"name": "a"}, apart, KEPT, broken, "a", "a")
        self.check_none(KEPT, broken)

    def test_answers_are_new(self):
        told = [(0, 3, 4), (1, 2, 5)]
        found = apart(KEPT, told, "a", "c")
        before = [(list(order), list(years)) for order, years in (found.near, found.wide)]
        for part in (*found.near, *found.wide):
            part.clear()
        again = apart(KEPT, told, "a", "c")
        self.assertEqual([again.near, again.wide], before)
        self.assertEqual(told, [(0, 3, 4), (1, 2, 5)])
        self.assertEqual(apart(KEPT, tuple(told), "a", "c").most, 9)

    def test_sure_sets(self):
        """Where a and b are the ends of a sure set in every layout, the years are the times of the set."""
        table = Table(list("abcde"), [["a", "b"], ["b", "c"], list("abcd"), list("cd")])
        kept = Kept(table)
        told = [(0, 3, 4), (1, 2, 5), (2, 9, 12), (3, 0, None)]
        found, time = apart(kept, told, "a", "d"), lasting(Spans(table, told), list("abcd"))
        self.assertEqual((found.least, found.most), (time.least, time.most))

    def test_twelve_columns(self):
        begun = perf_counter()
        table = Table(TWELVE, [TWELVE, TWELVE[:6], TWELVE[6:]])
        told = [(0, 0, 1000), (1, 10, 20), (2, 30, 40)]
        found = apart(Kept(table), told, "a", "g")
        self.assertEqual((found.least, found.most), (0, 1000))
        found = apart(Kept(table, ["ab", "bg"]), told, "a", "b")
        self.assertEqual((found.least, found.most), (0, 20))
        found = apart(Kept(table, ["gl"]), [(1, 10, 20), (2, 30, 40)], "a", "g")
        self.assertEqual((found.least, found.most), (0, None))
        lines = Table(TWELVE, [TWELVE[at:at + 2] for at in (0, 1, 3, 4, 6, 7, 9, 10)] + [TWELVE])
        told = [(at, at + 1, 2 * at + 2) for at in range(8)]
        found = apart(Kept(lines), told + [(8, 0, 500)], "b", "h")
        self.assertEqual((found.least, found.most), (0 + 1 + 5 + 0, 500 - 1 - 5))
        self.assertLess(perf_counter() - begun, SECONDS)


if __name__ == "__main__":
    unittest.main()
