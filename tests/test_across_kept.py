"""What holds for many calls about kept layouts, years and worlds.

Points [71] to [76]: other names, columns in another sequence, the other direction, more facts, and worlds. Points [2]
and [3]: arguments stay as they are, a tuple may stand for a list, and what is returned can be changed freely.
"""

import unittest
from copy import deepcopy
from itertools import permutations
from random import Random

from helpers import (TWELVE, check_clash, kept_of, layouts_of, pairs_of_order, random_spans, random_windows,
                     small_tables_with_pairs)
from unbrokenrows.between import apart
from unbrokenrows.errors import BadPair, Clash, NoDating, NoLayout, Unknown, RowsError
from unbrokenrows.keeping import Kept, fewest_out
from unbrokenrows.patterns import Pattern, find_pattern, lies_in, recognized
from unbrokenrows.places import far, mean_place, places, share_before
from unbrokenrows.questions import AtPlace, Before, Beside, Between
from unbrokenrows.shares import Share
from unbrokenrows.spans import Spans, check_years, earliest, lasting, time_of
from unbrokenrows.tables import Table
from unbrokenrows.windows import Windows
from unbrokenrows.worlds import verdict

NEW_NAMES = {"a": "not", "b": "loose", "c": "a", "d": "turn", "e": "ring"}
WORDS = ["a", "b", "c", "d", "e"]


def new(value):
    """The value with the new names in the place of the old ones."""
    if isinstance(value, str):
        return NEW_NAMES[value]
    if isinstance(value, (list, tuple)):
        return type(value)([new(part) for part in value])
    return value


def kepts(seed, many):
    found = [(table, pairs) for table, pairs in small_tables_with_pairs(seed, many) if kept_of(table, pairs)]
    return [Kept(table, pairs) for table, pairs in found]


def questions(columns):
    found = [kind(a, b) for kind in (Before, Beside) for a, b in permutations(columns, 2)]
    found += [Between(a, b, c) for a, b, c in permutations(columns, 3)]
    return found + [AtPlace(name, place) for name in columns for place in range(6)]


def same_question(question, names):
    """The question of the same kind about other names."""
    return AtPlace(names[0], question.place) if isinstance(question, AtPlace) else type(question)(*names)


class RenamedTest(unittest.TestCase):
    def test_kept_layouts(self):
        for kept in kepts(150, 150):
            table = kept.table.renamed(**{name: NEW_NAMES[name] for name in kept.table.columns})
            other = Kept(table, new(kept.pairs))
            self.assertEqual(other.count(), kept.count())
            self.assertEqual(list(other.kept_layouts()), new(list(kept.kept_layouts())))
            self.assertEqual(other.sure_pairs(), new(kept.sure_pairs()))
            self.assertEqual(other.needless_pairs(), kept.needless_pairs())
            order = kept.kth(kept.count() - 1)
            self.assertEqual(other.rank(new(order)), kept.rank(order))
            for question in questions(kept.table.columns):
                self.assertEqual(same_question(question, new(question.names))(other).word, question(kept).word)
            for name in kept.table.columns:
                self.assertEqual(places(other, new(name)), places(kept, name))
                self.assertTrue(mean_place(other, new(name)) == mean_place(kept, name))
            for a, b in permutations(kept.table.columns, 2):
                one, two = far(kept, a, b, {a: 7}), far(other, new(a), new(b), {new(a): 7})
                self.assertEqual((one.least, one.most), (two.least, two.most))
                self.assertTrue(share_before(other, new(a), new(b)) == share_before(kept, a, b))

    def test_worlds(self):
        random = Random(151)
        for table, pairs in small_tables_with_pairs(152, 200):
            renamed = table.renamed(**{name: NEW_NAMES[name] for name in table.columns})
            spans = random_spans(random, table, random.choice([0, 0, 2]))
            windows = [] if spans else random_windows(random, table.columns, 2)
            one, other = verdict(table, pairs, spans, windows), verdict(renamed, new(pairs), spans, new(windows))
            self.assertEqual((other.word, other.layout, other.years), (one.word, new(one.layout), one.years))
            told = Windows(table, windows)
            self.assertEqual(Windows(renamed, new(windows)).forced(), new(told.forced()))
            self.assertEqual(len(fewest_out(renamed, new(pairs))), len(fewest_out(table, pairs)))


class ReorderedTest(unittest.TestCase):
    def test_kept_layouts(self):
        random = Random(153)
        for kept in kepts(154, 150):
            columns = kept.table.columns
            other = Kept(kept.table.reordered(random.sample(columns, len(columns))), kept.pairs)
            self.assertEqual(other.count(), kept.count())
            self.assertEqual(sorted(other.kept_layouts()), sorted(kept.kept_layouts()))
            self.assertEqual(sorted(other.sure_pairs()), sorted(kept.sure_pairs()))
            for question in questions(columns):
                self.assertEqual(question(other).word, question(kept).word)
            for name in columns:
                self.assertEqual(places(other, name), places(kept, name))
            for a, b in permutations(columns, 2):
                one, two = far(kept, a, b), far(other, a, b)
                self.assertEqual((one.least, one.most), (two.least, two.most))
                self.assertTrue(share_before(other, a, b) == share_before(kept, a, b))

    def test_years_between(self):
        random = Random(155)
        for kept in kepts(156, 100):
            columns = kept.table.columns
            told = random_spans(random, kept.table, 3)
            moved = Kept(kept.table.reordered(random.sample(columns, len(columns))), kept.pairs)
            for a, b in list(permutations(columns, 2))[:3]:
                try:
                    one = apart(kept, told, a, b)
                except NoDating:
                    with self.assertRaises(NoDating):
                        apart(moved, told, a, b)
                    continue
                other = apart(moved, told, b, a)
                self.assertEqual((one.least, one.most), (other.least, other.most))


class TurnedTest(unittest.TestCase):
    def test_the_other_direction(self):
        for kept in kepts(157, 200):
            columns = kept.table.columns
            turned = Kept(kept.table, [(b, a) for a, b in kept.pairs])
            self.assertEqual(sorted(turned.kept_layouts()), sorted(order[::-1] for order in kept.kept_layouts()))
            for question in questions(columns):
                if isinstance(question, (Between, Beside)):
                    self.assertEqual(question(turned).word, question(kept).word)
            for name in columns:
                self.assertEqual(places(turned, name), [len(columns) - 1 - p for p in places(kept, name)][::-1])
            for a, b in permutations(columns, 2):
                one, other = far(kept, a, b), far(turned, a, b)
                self.assertEqual((one.least, one.most), (other.least, other.most))
                self.assertTrue(share_before(turned, a, b) == Share(1) - share_before(kept, a, b))


class MoreFactsTest(unittest.TestCase):
    def more(self, random, kept):
        """Kept layouts with one row or one pair more, which the last kept layout keeps."""
        order = kept.kth(kept.count() - 1)
        low, high = sorted([random.randint(0, len(order)), random.randint(0, len(order))])
        yield Kept(kept.table.plus(order[low:high]), kept.pairs)
        yield kept.plus(*pairs_of_order(random, order, 1))

    def test_never_more_layouts(self):
        random = Random(158)
        for kept in kepts(159, 100):
            for fewer in self.more(random, kept):
                self.assertIsNone(fewer.parting(kept))
                self.assertTrue(all(order in kept for order in fewer.kept_layouts()))
                for question in questions(kept.table.columns):
                    word = question(kept).word
                    self.assertTrue(word == "open" or question(fewer).word == word)
                for name in kept.table.columns:
                    self.assertLessEqual(set(places(fewer, name)), set(places(kept, name)))
                for a, b in permutations(kept.table.columns, 2):
                    one, other = far(kept, a, b), far(fewer, a, b)
                    self.assertTrue(one.least <= other.least and other.most <= one.most)
                    self.assertTrue(fewer.is_before(a, b) or not kept.is_before(a, b))

    def test_patterns_stay(self):
        table = Table(WORDS, [["a", "b"], ["b", "c"], ["c", "a"], ["a", "e"]])
        pattern = find_pattern(table)
        self.assertTrue(lies_in(table.plus(["b", "d", "e"], []), pattern))

    def test_clashes_stay(self):
        for table, pairs in small_tables_with_pairs(160, 200):
            found = verdict(table, pairs)
            if found.word == "clash":
                more = verdict(table.plus(), [*pairs, *pairs[::-1]])
                self.assertEqual(more.word, "clash")
                check_clash(self, table, pairs, *more.clash)
                check_clash(self, table, [*pairs, *pairs[::-1]], *found.clash)


class WorldTest(unittest.TestCase):
    def test_pairs_and_spans(self):
        """Point [75], with everything taken by itself."""
        random = Random(161)
        seen = {}
        for table, pairs in small_tables_with_pairs(162, 300):
            if random.random() < 0.2 and len(table.columns) > 2:
                a, b, c = table.columns[:3]
                table = table.plus([a, b], [b, c], [c, a])
            spans = random_spans(random, table, 3)
            word = verdict(table, pairs, spans).word
            seen[word] = seen.get(word, 0) + 1
            self.assertEqual(word == "pattern", find_pattern(table) is not None)
            if word in ("years", "world"):
                self.assertEqual(word == "years", self.has_no_dating(Spans(table, spans), Kept(table, pairs).first()))
        self.assertEqual(sorted(seen), ["clash", "pattern", "world", "years"])

    def has_no_dating(self, spans, order):
        try:
            earliest(spans, order)
        except NoDating:
            return True
        return False

    def test_open_answers_belong_to_worlds(self):
        random = Random(163)
        for kept in kepts(164, 60):
            spans = Spans(kept.table, random_spans(random, kept.table, 2))
            if verdict(kept.table, kept.pairs, spans.told).word == "world":
                for question in questions(kept.table.columns):
                    answer = question(kept)
                    for order in (answer.yes, answer.no):
                        if order is not None:
                            self.assertIsNone(check_years(spans, order, earliest(spans, order)))


class ArgumentTest(unittest.TestCase):
    """Calls with all their lists at once."""

    TABLE = Table(["a", "b", "c", "d"], [["a", "b"], ["b", "c"], ["a", "b", "c"]])

    def calls(self):
        kept, table = Kept(self.TABLE, [("c", "a")]), self.TABLE
        spans, windows = Spans(table, [(0, 3, None), (1, 2, 5)]), Windows(table, [("a", 1, 5), ("d", 0, 0)])
        order, years = ["d", "c", "b", "a"], [0, 0, 2, 5]
        return [
            (lambda pairs: Kept(table, pairs).pairs, [[("c", "a"), ("d", "a")]]),
            (lambda pair: kept.plus(pair, pair).pairs, [["d", "a"]]),
            (lambda pairs: fewest_out(table, pairs), [[("c", "a"), ("a", "c"), ("c", "a")]]),
            (lambda told: kept.rank(told), [order]), (lambda told: told in kept, [order]),
            (lambda names: kept.is_sure(names), [["b", "a", "b"]]),
            (lambda rows, columns: Pattern(1, 1, rows, columns).rows, [[0, 1], ["a", "b"]]),
            (lambda told: Before("c", "a").holds(told), [order]),
            (lambda told: (~AtPlace("c", 1)).holds(told), [order]),
            (lambda told: Spans(table, told).told, [[(0, 3, None), (1, 2, 5)]]),
            (lambda told, dated, names: time_of(told, dated, names), [order, years, ["a", "b", "a"]]),
            (lambda told, dated: check_years(spans, told, dated), [order, years]),
            (lambda told: earliest(spans, told), [order]),
            (lambda names: lasting(spans, names).least, [["b", "a", "b"]]),
            (lambda told: Windows(table, told).told, [[("a", 1, 5), ("d", 0, 0)]]),
            (lambda told, dated: windows.keeps(told, dated), [order, years]),
            (lambda told: windows.dates(told), [order]),
            (lambda pairs, told, dated: verdict(table, pairs, told, dated).years,
             [[("c", "a")], [(0, 3, None)], [("a", 1, 5), ("d", 0, 0)]]),
            (lambda told: apart(kept, told, "a", "c").least, [[(0, 3, None), (1, 2, 5)]]),
            (lambda told: kept.kth(kept.rank(told)), [order]),
        ]

    def test_lists_stay_and_tuples_stand_for_them(self):
        for call, told in self.calls():
            passed = deepcopy(told)
            found = call(*passed)
            self.assertEqual(passed, told)
            self.assertEqual(call(*[tuple(one) for one in told]), found)
            inner = [[list(part) if isinstance(part, tuple) else part for part in one] for one in told]
            self.assertEqual(call(*inner), found)

    def test_returned_lists_can_be_changed(self):
        for call, told in self.calls():
            found = call(*told)
            if isinstance(found, list):
                before = list(found)
                found.clear()
                self.assertEqual(call(*told), before)

    def test_objects_stay(self):
        table, kept = self.TABLE, Kept(self.TABLE, [("c", "a")])
        spans, windows = Spans(table, [(0, 3, None), (1, 2, 5)]), Windows(table, [("a", 1, 5)])

        def shown():
            return (table.columns, table.rows, kept.table == table, kept.pairs, kept.tree.form, kept.count(),
                    kept.first(), spans.told, windows.told, list(kept.kept_layouts()))
        before = shown()
        found = [kept.sure_pairs(), kept.why("c", "a").blocks, kept.plus(("d", "a")).count(), kept.parting(Kept(table)),
                 Kept(table).parting(kept), kept.needless_pairs(), places(kept, "a"), far(kept, "a", "d", {"b": 3}).most,
                 str(mean_place(kept, "b")), lasting(spans, ["a", "b"]).least, windows.forced(), recognized(table),
                 apart(kept, spans.told, "a", "d").most, Beside("a", "d")(kept).word, Before("a", "d")(kept).yes,
                 verdict(table, kept.pairs, spans.told, windows.told).word]
        self.assertEqual(len(found), 16)
        self.assertEqual(shown(), before)

    def test_errors_change_nothing(self):
        kept = Kept(self.TABLE, [("c", "a")])
        for call in [lambda: kept.plus(("a", "c")), lambda: kept.plus(("x", "y")), lambda: kept.kth(99),
                     lambda: kept.rank(["a"]), lambda: kept.why("a", "c"), lambda: kept.is_before("a", "a"),
                     lambda: far(kept, "a", "b", {"x": 1}), lambda: Before("x", "y")(kept)]:
            with self.assertRaises(RowsError):
                call()
            self.assertEqual((kept.pairs, kept.count(), kept.first()), ((("c", "a"),), 2, ["c", "b", "a", "d"]))

    def test_error_classes(self):
        with self.assertRaises(Unknown):
            places(Kept(self.TABLE), "x")
        self.assertFalse(issubclass(BadPair, (Clash, NoLayout)))
        self.assertEqual(layouts_of(Table(TWELVE[:1])), [["a"]])


if __name__ == "__main__":
    unittest.main()
