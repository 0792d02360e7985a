import unittest
from itertools import combinations_with_replacement
from math import factorial
from random import Random
from time import perf_counter

from helpers import (TWELVE, can_be_dated, check_clash, check_no_dating, check_numbers, check_raises, is_dated, kept_of,
                     keeps_pairs, layouts_of, pairs_of_order, random_pairs, random_spans, random_table, random_windows,
                     spans_over, surplus, table_with_layout)
from unbrokenrows.errors import BadPair, BadSpan, BadWindow, Clash, TooMany
from unbrokenrows.keeping import Kept
from unbrokenrows.patterns import lies_in
from unbrokenrows.spans import Spans, check_years, earliest
from unbrokenrows.tables import Table
from unbrokenrows.windows import Windows
from unbrokenrows.worlds import Verdict, verdict

ABC = Table(["a", "b", "c"], [["a", "b"], []])
NO_LAYOUT = Table(["a", "b", "c"], [["a", "b"], ["b", "c"], ["c", "a"]])
ATTRIBUTES = ["word", "pattern", "clash", "lists", "layout", "years", "rings"]
MENTIONED = {"pattern": ["pattern"], "clash": ["clash"], "years": ["lists"], "world": ["layout", "years"],
             "each": ["rings"]}
SECONDS = 5


def random_input(random, with_spans, with_windows):
    columns = random.sample(TWELVE[:5], random.randint(1, 5))
    table = table_with_layout(random, columns, random.randint(1, 5))
    if random.random() < 0.2:
        table = random_table(random, columns, 6).plus(columns[:2], columns[1:3], columns[:3:2])
    pairs = random_pairs(random, columns, random.choice([0, 0, 1, 2, 3]))
    spans = random_spans(random, table, random.randint(1, 4)) if with_spans else []
    windows = random_windows(random, columns, random.randint(1, 4)) if with_windows else []
    return table, pairs, spans, windows


def hidden_world(random):
    """A table with spans and windows that some dated layout keeps."""
    columns = random.sample(TWELVE[:5], random.randint(3, 5))
    table = table_with_layout(random, columns, 4)
    order = random.choice(layouts_of(table))
    years = dict(zip(order, sorted(random.choices(range(9), k=len(order)))))
    spans = []
    for number, row in enumerate(table):
        if row:
            time = max(years[name] for name in row) - min(years[name] for name in row)
            spans.append((number, max(0, time - random.randint(0, 1)), time + random.randint(0, 1)))
    windows = [(name, years[name] - random.randint(0, 3), years[name] + random.randint(0, 3)) for name in columns[:3]]
    return table, [], spans, windows


def years_around(many, last):
    return combinations_with_replacement(range(-last, last + 1), many)


class VerdictTest(unittest.TestCase):
    def check_attributes(self, found):
        self.assertIsInstance(found, Verdict)
        for name in ATTRIBUTES[1:]:
            self.assertEqual(getattr(found, name) is not None, name in MENTIONED[found.word], name)

    def check_verdict(self, table, pairs, spans, windows):
        """Everything that point [43] says, with all orders being tried. Returns the word."""
        forced = Windows(table, windows).forced()
        every, orders = layouts_of(table), kept_of(table, [*pairs, *forced])
        if spans and windows and len(orders) > 24 and can_be_dated(table, spans, [], orders[0]):
            check_raises(self, TooMany, {"many": len(orders)}, verdict, table, pairs, spans, windows)
            return "many"
        found = verdict(table, pairs, spans, windows)
        self.check_attributes(found)
        dated = [order for order in orders if can_be_dated(table, spans, windows, order)]
        if not every:
            self.assertEqual(found.word, "pattern")
            self.assertTrue(lies_in(table, found.pattern))
        elif not orders:
            self.assertEqual(found.word, "clash")
            self.assertIsInstance(found.clash, tuple)
            check_clash(self, table, [*pairs, *forced], *found.clash)
        elif not can_be_dated(table, spans, [], orders[0]):
            self.assertEqual(found.word, "years")
            self.assertIsInstance(found.lists, tuple)
            check_no_dating(self, table, spans, *found.lists)
        elif dated:
            self.assertEqual((found.word, found.layout), ("world", dated[0]))
            self.check_years(table, spans, windows, found)
        else:
            self.assertEqual((found.word, len(found.rings)), ("each", len(orders)))
            for order, ring in zip(orders, found.rings):
                self.check_ring(table, spans, windows, order, ring)
        return found.word

    def check_years(self, table, spans, windows, found):
        self.assertIsInstance(found.layout, list)
        self.assertIsInstance(found.years, list)
        self.assertTrue(is_dated(table, spans, windows, found.layout, found.years))
        if not windows:
            self.assertEqual(found.years, earliest(Spans(table, spans), found.layout))
        elif not spans:
            self.assertEqual(found.years, Windows(table, windows).dates(found.layout))

    def check_ring(self, table, spans, windows, order, ring):
        self.assertIsInstance(ring, tuple)
        less, more, low, high = ring
        check_numbers(self, spans, less, more)
        years = {name: (first, last) for name, first, last in windows}
        self.assertTrue(low != high and low in years and high in years)
        self.assertGreater(surplus(spans, less, more) + years[low][0] - years[high][1], 0)
        places = sorted([order.index(low), order.index(high)])
        for at in range(1, len(order)):
            one, other = order[at - 1], order[at]
            many = spans_over(table, spans, less, one, other) - spans_over(table, spans, more, one, other)
            inner = places[0] <= at - 1 and at <= places[1]
            limit = (1 if order.index(low) < order.index(high) else -1) if inner else 0
            self.assertLessEqual(many, limit)

    def test_example(self):
        one = verdict(Table(["a", "b", "c"], [["a", "b"]]), [("c", "a")], [(0, 4, 9)])
        other = verdict(Table(["a", "b", "c"], [["a", "b"]]), [("c", "a")], (), [("b", 1, 2), ("c", 5, 6)])
        self.assertEqual([one.word, one.layout, one.years, other.word, other.clash[0]],
                         ["world", ["c", "a", "b"], [0, 0, 4], "clash", "ring"])

    def test_random_inputs(self):
        random = Random(130)
        for with_spans, with_windows, words in [(False, False, ["pattern", "clash", "world"]),
                                                (True, False, ["pattern", "clash", "years", "world"]),
                                                (False, True, ["pattern", "clash", "world"])]:
            seen = {}
            for _ in range(250):
                word = self.check_verdict(*random_input(random, with_spans, with_windows))
                seen[word] = seen.get(word, 0) + 1
            self.assertEqual(sorted(seen), sorted(words))

    def test_spans_and_windows(self):
        random = Random(131)
        seen = {}
        for _ in range(900):
            word = self.check_verdict(*random_input(random, True, True))
            seen[word] = seen.get(word, 0) + 1
        self.assertEqual(sorted(seen), ["clash", "each", "many", "pattern", "world", "years"])
        self.assertGreater(min(seen.values()), 10)

    def test_against_all_years(self):
        """The layout of a world is the least one, and without a world there are no years in any."""
        random = Random(132)
        seen = {}
        for _ in range(150):
            columns = random.sample(TWELVE, 3)
            table = table_with_layout(random, columns, 3)
            spans, windows = random_spans(random, table, 2, 2), random_windows(random, columns, 2, 2)
            orders = kept_of(table, Windows(table, windows).forced())
            dated = [order for order in orders
                     if any(is_dated(table, spans, windows, order, years) for years in years_around(3, 9))]
            found = verdict(table, [], spans, windows)
            seen[found.word] = seen.get(found.word, 0) + 1
            self.assertEqual(found.word == "world", len(dated) > 0)
            if dated:
                self.assertEqual(found.layout, dated[0])
        self.assertEqual(sorted(seen), ["each", "world", "years"])

    def test_later_layouts(self):
        """A world whose layout is not the first kept layout."""
        table = Table(["a", "b", "c"], [["a", "b"], ["a", "b", "c"]])
        spans, windows = [(0, 5, None), (1, 0, 9)], [("a", 4, 4), ("b", -9, 9)]
        found = verdict(table, [], spans, windows)
        self.assertEqual((found.word, found.layout), ("world", ["a", "b", "c"]))
        found = verdict(table, [], spans, [("a", 5, 9), ("b", -9, 0)])
        self.assertEqual((found.word, found.layout), ("world", ["b", "a", "c"]))
        random = Random(133)
        seen = {True: 0, False: 0}
        for _ in range(300):
            told = hidden_world(random)
            orders = kept_of(told[0], Windows(told[0], told[3]).forced())
            word = self.check_verdict(*told)
            if word != "many":
                self.assertEqual(word, "world")
                seen[verdict(*told).layout == orders[0]] += 1
        self.assertGreater(min(seen.values()), 20)

    def test_columns_before_all_windows(self):
        """Columns without a window far before those that have one."""
        table = Table(["a", "b", "c", "d"], [["a", "b"], ["b", "c"], ["c", "d"]])
        for windows in ([("d", 5, 5)], [("c", -7, -7)], [("b", 3, 4), ("d", 3, 4)], [("a", 10 ** 6, 10 ** 6)]):
            for spans in ([(0, 100, 100), (1, 0, 0)], [(0, 3, None), (2, 0, 1)], [(0, 10 ** 6, None)]):
                self.check_verdict(table, ["ad"], spans, windows)

    def test_large_numbers(self):
        table = Table(TWELVE, [TWELVE[at:at + 2] for at in range(11)])
        spans = [(at, 10 ** 6, 10 ** 6) for at in range(11)]
        found = verdict(table, [("a", "b")], spans, [("l", -10 ** 6, -10 ** 6)])
        self.assertEqual(found.years, [(at - 12) * 10 ** 6 for at in range(12)])
        found = verdict(table, [("a", "b")], spans, [("l", -10 ** 6, -10 ** 6), ("a", -10 ** 6, 10 ** 6)])
        self.assertEqual((found.word, len(found.rings)), ("each", 1))
        self.check_ring(table, spans, [("l", -10 ** 6, -10 ** 6), ("a", -10 ** 6, 10 ** 6)], TWELVE, found.rings[0])

    def test_without_columns(self):
        for table in (Table([]), Table([], [[], []])):
            found = verdict(table)
            self.assertEqual((found.word, found.layout, found.years), ("world", [], []))
            self.check_attributes(found)


class ErrorTest(unittest.TestCase):
    def test_errors_in_turn(self):
        wrong = [("a", "x")], [(1, 0, 0)], [("x", 0, 1)]
        for table in (ABC, NO_LAYOUT):
            check_raises(self, BadPair, {"index": 0}, verdict, table, wrong[0], [(1, 0, -1)], wrong[2])
            check_raises(self, BadPair, {"index": 200}, verdict, table, [("a", "b")] * 201, [(1, 0, -1)], wrong[2])
            check_raises(self, BadSpan, {"index": 0}, verdict, table, [("a", "b"), ("b", "a")], [(1, 0, -1)], wrong[2])
            check_raises(self, BadSpan, {"index": 24}, verdict, table, [], [(0, 0, 0)] * 25, wrong[2])
            check_raises(self, BadWindow, {"index": 1}, verdict, table, [], [(0, 0, 0)], [("a", 0, 0), ("a", 0, 0)])
            check_raises(self, BadWindow, {"index": 0}, verdict, table, [("a", "b"), ("b", "a")], [], wrong[2])

    def test_words_in_turn(self):
        clash, years = ["ab", "ba"], [(0, 5, None), (0, 0, 4)]
        self.assertEqual(verdict(NO_LAYOUT, clash, years, [("a", 0, 0)]).word, "pattern")
        self.assertEqual(verdict(ABC, clash, years, [("a", 0, 0)]).word, "clash")
        self.assertEqual(verdict(ABC, [], years, [("a", 0, 0)]).word, "years")
        self.assertEqual(verdict(ABC, [], years, [("a", 0, 0), ("b", 1, 1)]).word, "years")
        self.assertEqual(verdict(ABC, ["ba"], years, [("a", 0, 0), ("b", 1, 1)]).word, "clash")
        self.assertEqual(verdict(ABC, [], [(0, 5, 6)], [("a", 0, 0), ("b", 0, 4)]).word, "each")


class TooManyTest(unittest.TestCase):
    """Two fences of four columns have five sequences each: 25 kept layouts, and 24 are four free columns."""

    FENCES = Table(list("abcdefgh"), [list("abcd"), list("efgh"), ["a"]])
    PAIRS = ["ab", "cb", "cd", "ef", "gf", "gh", "ae"]
    FREE = Table(list("abcd"), [list("abcd")])

    def test_numbers_of_layouts(self):
        self.assertEqual(Kept(self.FENCES, self.PAIRS).count(), 25)
        self.assertEqual(Kept(self.FREE).count(), 24)

    def test_twenty_five(self):
        check_raises(self, TooMany, {"many": 25}, verdict, self.FENCES, self.PAIRS, [(0, 1, 2)], [("a", 0, 0)])
        self.assertEqual(verdict(self.FENCES, self.PAIRS, [(0, 1, 2)]).word, "world")
        self.assertEqual(verdict(self.FENCES, self.PAIRS, [], [("a", 0, 0)]).word, "world")
        self.assertEqual(verdict(self.FENCES, self.PAIRS + ["ea"], [(0, 1, 2)], [("a", 0, 0)]).word, "clash")
        self.assertEqual(verdict(self.FENCES, self.PAIRS, [(2, 1, 2)], [("a", 0, 0)]).word, "years")

    def test_forced_pairs_count_too(self):
        check_raises(self, TooMany, {"many": 25}, verdict, self.FENCES, self.PAIRS[:-1], [(0, 1, 2)],
                     [("a", 0, 0), ("e", 1, 9)])
        check_raises(self, TooMany, {"many": 50}, verdict, self.FENCES, self.PAIRS[:-1], [(0, 1, 2)],
                     [("a", 0, 0), ("e", 0, 9)])
        self.assertEqual(verdict(self.FENCES, self.PAIRS, [(0, 1, 2)], [("a", 0, 0), ("c", 1, 2)]).word, "world")

    def test_twenty_four(self):
        found = verdict(self.FREE, [], [(0, 1, 2)], [("a", 0, 0)])
        self.assertEqual((found.word, found.layout), ("world", list("abcd")))
        found = verdict(self.FREE, [], [(0, 9, 9)], [(name, 0, 8) for name in "abcd"])
        self.assertEqual((found.word, len(found.rings)), ("each", 24))
        check_raises(self, TooMany, {"many": 48}, verdict, Table(list("abcde"), [list("abcd")]), [], [(0, 1, 2)],
                     [("a", 0, 0)])

    def test_very_many(self):
        begun = perf_counter()
        table = Table(TWELVE, [TWELVE])
        check_raises(self, TooMany, {"many": factorial(12)}, verdict, table, [], [(0, 1, None)], [("a", 0, 0)])
        self.assertEqual(verdict(table, [], [(0, 1, None)]).layout, TWELVE)
        self.assertEqual(verdict(table, [], [], [("a", 5, 5), ("l", 4, 4)]).layout, list("bcdefghijkla"))
        self.assertLess(perf_counter() - begun, SECONDS)


class ManyPairsTest(unittest.TestCase):
    def test_beyond_two_hundred(self):
        random = Random(134)
        begun = perf_counter()
        table = Table(TWELVE, [TWELVE])
        pairs = pairs_of_order(random, TWELVE, 200)
        windows = [(name, at, at) for at, name in enumerate(TWELVE)]
        found = verdict(table, pairs, [], windows)
        self.assertEqual((found.word, found.layout, found.years), ("world", TWELVE, list(range(12))))
        found = verdict(table, pairs, [(0, 11, 11)], windows)
        self.assertEqual((found.word, found.layout, found.years), ("world", TWELVE, list(range(12))))
        found = verdict(table, pairs, [(0, 12, None)], windows)
        self.assertEqual((found.word, len(found.rings)), ("each", 1))
        found = verdict(table, pairs, [], [(name, -at, -at) for at, name in enumerate(TWELVE)])
        self.assertEqual(found.word, "clash")
        self.assertLess(perf_counter() - begun, SECONDS)


class AcrossTest(unittest.TestCase):
    def test_without_windows(self):
        """Point [75]: every kept layout has a dating as soon as one has."""
        random = Random(135)
        for _ in range(200):
            table, pairs, spans, _ = random_input(random, True, False)
            found = verdict(table, pairs, spans)
            if found.word == "world":
                for order in kept_of(table, pairs):
                    self.assertIsNone(check_years(Spans(table, spans), order, earliest(Spans(table, spans), order)))

    def test_without_spans(self):
        """Point [76]: there is a world exactly if the bound pairs can be kept."""
        random = Random(136)
        for _ in range(200):
            table, pairs, _, windows = random_input(random, False, True)
            told = Windows(table, windows)
            found = verdict(table, pairs, [], windows)
            if found.word == "world":
                kept = Kept(table, pairs + told.forced())
                self.assertEqual(kept.first(), found.layout)
                for order in kept.kept_layouts():
                    self.assertTrue(told.keeps(order, told.dates(order)))
                    self.assertTrue(keeps_pairs(order, told.forced()))
            elif found.word == "clash":
                with self.assertRaises(Clash):
                    Kept(table, pairs + told.forced())

    def test_answers_are_new(self):
        table = Table(["a", "b", "c"], [["a", "b"]])
        for spans, windows in ([(0, 4, 9)], []), ([], [("a", 0, 1)]), ([(0, 4, 9)], [("a", 0, 1)]):
            found = verdict(table, [], spans, windows)
            before = (list(found.layout), list(found.years))
            found.layout.clear()
            found.years.clear()
            again = verdict(table, [], spans, windows)
            self.assertEqual((again.layout, again.years), before)

    def test_lists_and_tuples(self):
        for told in ([["c", "a"]], [[0, 4, 9]], [["b", 1, 2]]), ((("c", "a"),), ((0, 4, 9),), (("b", 1, 2),)):
            found = verdict(Table(["a", "b", "c"], [["a", "b"]]), *told)
            self.assertEqual((found.word, found.layout), ("world", ["c", "a", "b"]))
        self.assertEqual(told, ((("c", "a"),), ((0, 4, 9),), (("b", 1, 2),)))


if __name__ == "__main__":
    unittest.main()
