"""Points [71] to [76], [79] and [81] on greater tables, on mends, loads and desks, and what stays as it is."""

import unittest
from copy import deepcopy
from itertools import permutations
from random import Random

from deskmodel import CHANGES, FACTS, random_line
from helpers import (TWELVE, pairs_of_order, random_pairs, random_spans, random_windows, small_tables, table_of_form,
                     table_with_layout)
from unbrokenrows.desks import Desk
from unbrokenrows.errors import Clash, NoAgreement, NoDating, NoLayout, NoMend, NoRing, RowsError, TooMany
from unbrokenrows.keeping import Kept
from unbrokenrows.loads import best
from unbrokenrows.mends import fewest_rows, single_columns, single_marks, single_rows
from unbrokenrows.orders import gap_rows
from unbrokenrows.patterns import find_pattern, lies_in
from unbrokenrows.places import far, mean_place, places, share_before
from unbrokenrows.questions import AtPlace, Before, Beside, Between
from unbrokenrows.rings import Ring, split
from unbrokenrows.shares import Share
from unbrokenrows.sharing import agree
from unbrokenrows.spans import Spans, check_years, earliest, lasting
from unbrokenrows.tables import Table
from unbrokenrows.trees import Tree
from unbrokenrows.windows import Windows
from unbrokenrows.worlds import verdict

NEW = dict(zip(TWELVE, ["loose", "firm", "row", "ask", "z", "y", "a", "b", "first", "not", "span", "c"]))


def new(value):
    """The value with the new names in the place of the old ones."""
    if isinstance(value, str):
        return NEW[value]
    return type(value)([new(part) for part in value]) if isinstance(value, (list, tuple)) else value


def great_kepts(seed, many):
    """Kept layouts of 8 to 12 columns, with firm pieces inside each other or with many rows."""
    random = Random(seed)
    found = []
    for at in range(many):
        columns = random.sample(TWELVE, random.randint(8, 12))
        table = table_of_form(random, 12) if at % 2 else table_with_layout(random, columns, random.choice([2, 5, 9]))
        order = Tree.of(table).kth(random.randrange(Tree.of(table).count()))
        found.append(Kept(table, pairs_of_order(random, order, random.choice([0, 1, 3]))))
    return found


def some_questions(random, columns):
    """A few questions of each kind about these columns."""
    found = [AtPlace(name, random.randrange(12)) for name in columns[:3]]
    if len(columns) > 1:
        found += [kind(*random.sample(columns, 2)) for kind in (Before, Beside) for _ in range(4)]
    if len(columns) > 2:
        found += [Between(*random.sample(columns, 3)) for _ in range(4)]
    return found


def value_or_error(call):
    try:
        return call()
    except RowsError as error:
        return type(error).__name__


def number_of(error, call, table):
    try:
        call(table)
    except error as found:
        return found.number
    return None


class GreatTablesTest(unittest.TestCase):
    def test_other_names(self):
        for kept in great_kepts(500, 20):
            table = kept.table.renamed(**{name: NEW[name] for name in kept.table.columns})
            other = Kept(table, new(kept.pairs))
            self.assertEqual(other.count(), kept.count())
            for number in (0, kept.count() // 2, kept.count() - 1):
                self.assertEqual(other.kth(number), new(kept.kth(number)))
                self.assertEqual(other.rank(new(kept.kth(number))), number)
            self.assertEqual(other.sure_pairs(), new(kept.sure_pairs()))
            self.assertEqual(other.tree.sure_sets(), new(kept.tree.sure_sets()))
            worths = [at * 7 % 11 for at in range(len(table))]
            self.assertEqual(best(table, worths, 2).worth, best(kept.table, worths, 2).worth)

    def test_another_sequence_of_the_columns(self):
        random = Random(501)
        for kept in great_kepts(502, 20):
            table = kept.table
            moved = table.reordered(random.sample(table.columns, len(table.columns)))
            other = Kept(moved, kept.pairs)
            self.assertEqual((other.count(), Ring.of(moved).count()), (kept.count(), Ring.of(table).count()))
            self.assertEqual({frozenset(names) for names in other.tree.sure_sets()},
                             {frozenset(names) for names in kept.tree.sure_sets()})
            order = kept.first()
            self.assertTrue(order in other)
            self.assertEqual(gap_rows(moved, other.first()), gap_rows(table, order))
            self.check_years(random, table, moved, order)
            for question in some_questions(random, table.columns):
                self.assertEqual(question(other).word, question(kept).word)
            for a, b in list(permutations(table.columns, 2))[:4]:
                self.assertEqual((far(other, a, b).least, far(other, b, a).most),
                                 (far(kept, a, b).least, far(kept, a, b).most))
                self.assertEqual(places(other, a), places(kept, a))

    def check_years(self, random, table, moved, order):
        told = random_spans(random, table, 4, 9)
        one, other = Spans(table, told), Spans(moved, told)
        years = value_or_error(lambda: earliest(one, order))
        self.assertEqual(value_or_error(lambda: earliest(other, order)), years)
        for names in Tree.of(table).sure_sets()[:4] if isinstance(years, list) else []:
            first, second = lasting(one, names), lasting(other, names)
            self.assertEqual((first.least, first.most), (second.least, second.most))

    def test_numbers_of_errors_in_another_sequence(self):
        random = Random(503)
        for _ in range(30):
            table = table_with_layout(random, TWELVE, 5).plus(*[random.sample(TWELVE, 3) for _ in range(5)])
            moved = table.reordered(random.sample(TWELVE, 12))
            for error, call in [(NoLayout, Tree.of), (NoRing, Ring.of)]:
                self.assertEqual(number_of(error, call, moved), number_of(error, call, table))
            self.assertEqual(single_rows(moved), single_rows(table))
            self.assertEqual(sorted(single_columns(moved)), sorted(single_columns(table)))

    def test_the_other_direction(self):
        random = Random(504)
        for kept in great_kepts(505, 20):
            columns = kept.table.columns
            turned = Kept(kept.table, [(b, a) for a, b in kept.pairs])
            self.assertEqual(turned.count(), kept.count())
            self.assertTrue(kept.first()[::-1] in turned and turned.first()[::-1] in kept)
            for question in some_questions(random, columns):
                if isinstance(question, (Between, Beside)):
                    self.assertEqual(question(turned).word, question(kept).word)
            for a, b in list(permutations(columns, 2))[:4]:
                self.assertEqual(places(turned, a), [len(columns) - 1 - place for place in places(kept, a)][::-1])
                self.assertEqual((far(turned, a, b).least, far(turned, a, b).most),
                                 (far(kept, a, b).least, far(kept, a, b).most))
                self.assertTrue(share_before(turned, a, b) == Share(1) - share_before(kept, a, b))

    def test_more_facts(self):
        random = Random(506)
        for kept in great_kepts(507, 20):
            order = kept.kth(kept.count() - 1)
            low, high = sorted(random.sample(range(len(order) + 1), 2))
            for fewer in (Kept(kept.table.plus(order[low:high]), kept.pairs),
                          kept.plus(*pairs_of_order(random, order, 1))):
                self.assertIsNone(fewer.parting(kept))
                self.assertLessEqual(fewer.count(), kept.count())
                for question in some_questions(random, order):
                    self.assertIn(question(kept).word, ["open", question(fewer).word])
                for name in order[:3]:
                    self.assertLessEqual(set(places(fewer, name)), set(places(kept, name)))

    def test_patterns_and_clashes_stay(self):
        random = Random(508)
        for _ in range(20):
            table = Table(TWELVE, [random.sample(TWELVE, 3) for _ in range(12)])
            pattern = find_pattern(table)
            self.assertTrue(lies_in(table.plus(random.sample(TWELVE, 5)), pattern))
            free = table_with_layout(random, TWELVE, 4)
            pairs = random_pairs(random, TWELVE, 20)
            if verdict(free, pairs).word == "clash":
                self.assertEqual(verdict(free, [*pairs, *random_pairs(random, TWELVE, 3)]).word, "clash")

    def test_means_of_all_columns(self):
        for kept in great_kepts(509, 10):
            many = len(kept.table.columns)
            total = Share.total([mean_place(kept, name) for name in kept.table.columns])
            self.assertTrue(total == Share(many * (many - 1), 2))


class GreatWorldsTest(unittest.TestCase):
    def test_pairs_and_spans(self):
        """Point [75]."""
        random = Random(510)
        seen = {}
        for kept in great_kepts(511, 40):
            table = kept.table
            if random.random() < 0.2:
                table = table.plus(table.columns[:2], table.columns[1:3], table.columns[0:3:2])
            pairs = [*kept.pairs, *random_pairs(random, table.columns, random.choice([0, 0, 0, 4]))]
            told = random_spans(random, table, random.choice([2, 5]), 4)
            found = verdict(table, pairs, told)
            seen[found.word] = seen.get(found.word, 0) + 1
            self.assertEqual(found.word == "pattern", find_pattern(table) is not None)
            if found.word != "pattern":
                self.assertEqual(found.word == "clash", value_or_error(lambda: Kept(table, pairs)) == "Clash")
            if found.word in ("years", "world"):
                self.check_dated(Kept(table, pairs), Spans(table, told), found)
        self.assertEqual(sorted(seen), ["clash", "pattern", "world", "years"])

    def check_dated(self, kept, spans, found):
        for number in {0, kept.count() // 3, kept.count() - 1}:
            order = kept.kth(number)
            if found.word == "years":
                self.assertRaises(NoDating, earliest, spans, order)
            else:
                self.assertIsNone(check_years(spans, order, earliest(spans, order)))
        if found.word == "world":
            self.assertEqual((found.layout, found.years), (kept.first(), earliest(spans, kept.first())))

    def test_pairs_and_windows(self):
        """Point [76]."""
        random = Random(512)
        seen = {"world": 0, "clash": 0}
        for kept in great_kepts(513, 60):
            told = random_windows(random, kept.table.columns, random.choice([1, 2, 3]), 6)
            windows = Windows(kept.table, told)
            found = verdict(kept.table, kept.pairs, (), told)
            seen[found.word] += 1
            try:
                bound = Kept(kept.table, [*kept.pairs, *windows.forced()])
            except Clash:
                self.assertEqual(found.word, "clash")
                continue
            self.assertEqual((found.word, found.layout), ("world", bound.first()))
            self.assertEqual(found.years, windows.dates(found.layout))
            for number in {0, bound.count() // 3, bound.count() - 1}:
                order = bound.kth(number)
                self.assertTrue(windows.keeps(order, windows.dates(order)))
        self.assertGreater(min(seen.values()), 3)


class NamesTest(unittest.TestCase):
    """Points [71] and [72] for mends, loads and agreements."""

    def test_mends_and_loads(self):
        random = Random(514)
        for table in small_tables(515, 150, 5, 6):
            renamed = table.renamed(**{name: NEW[name] for name in table.columns})
            moved = table.reordered(random.sample(table.columns, len(table.columns)))
            self.assertEqual((single_rows(renamed), single_rows(moved)), (single_rows(table), single_rows(table)))
            self.assertEqual(single_columns(renamed), new(single_columns(table)))
            self.assertEqual(sorted(single_columns(moved)), sorted(single_columns(table)))
            self.assertEqual(single_marks(renamed), [(at, new(name)) for at, name in single_marks(table)])
            self.assertEqual(sorted(single_marks(moved)), sorted(single_marks(table)))
            for most in range(3):
                many = self.rows_out(table, most)
                self.assertEqual((self.rows_out(renamed, most), self.rows_out(moved, most)), (many, many))
            worths = [random.randint(0, 9) for _ in table]
            load = value_or_error(lambda: best(table, worths, 1).worth)
            self.assertEqual((value_or_error(lambda: best(renamed, worths, 1).worth),
                              value_or_error(lambda: best(moved, worths, 1).worth)), (load, load))

    def rows_out(self, table, most):
        try:
            return len(fewest_rows(table, most).rows)
        except NoMend:
            return None

    def test_agreements(self):
        kepts = great_kepts(516, 24)
        for one, other in zip(kepts[::2], kepts[1::2]):
            renamed = [Kept(kept.table.renamed(**{name: NEW[name] for name in kept.table.columns}), new(kept.pairs))
                       for kept in (one, other)]
            try:
                self.assertEqual(agree(renamed).shared, new(agree([one, other]).shared))
            except NoAgreement:
                self.assertRaises(NoAgreement, agree, renamed)
                self.assertRaises(NoAgreement, agree, [one, other])


class DeskTest(unittest.TestCase):
    """Point [81]."""

    def desks(self, seed, many):
        random = Random(seed)
        for _ in range(many):
            desk = Desk(*random.sample(TWELVE, random.choice([2, 3, 4, 6, 12])), strict=random.random() < 0.3)
            for _ in range(random.randint(1, 25)):
                self.step(random, desk)
            yield desk

    def step(self, random, desk):
        before = (desk.columns, desk.facts)
        try:
            desk.do(random_line(random, desk.columns, desk.facts, (FACTS, FACTS, CHANGES)))
        except RowsError:
            return
        after = (desk.columns, desk.facts)
        self.assertTrue(desk.undo())
        self.assertEqual((desk.columns, desk.facts), before)
        if random.random() < 0.8:
            self.assertTrue(desk.redo())
            self.assertEqual((desk.columns, desk.facts), after)

    def test_text_there_and_back(self):
        for desk in self.desks(520, 80):
            self.assertTrue(Desk.read(desk.text()) == desk)

    def has_world(self, desk):
        try:
            return desk.verdict().word == "world"
        except TooMany:
            return None

    def test_fewer_facts_and_more_columns(self):
        seen = [0, 0]
        for desk in self.desks(521, 120):
            self.assertTrue(not desk.strict or self.has_world(desk))
            if self.has_world(desk):
                for number in range(len(desk.facts)):
                    twin = Desk.read(desk.text())
                    twin.do(f"drop {number}")
                    self.assertIsNot(self.has_world(twin), False)
                    seen[0] += 1
                ends = [fact for fact in desk.facts if fact.split(" ")[0] in ("end", "first", "last")]
                if not ends and len(desk.columns) < 12:
                    twin = Desk.read(desk.text())
                    twin.do("column new")
                    self.assertIsNot(self.has_world(twin), False)
                    seen[1] += 1
        self.assertGreater(min(seen), 20)


class ArgumentTest(unittest.TestCase):
    """Points [2] and [3] for the calls that are not in the other tests of what stays."""

    TABLE = Table(["a", "b", "c", "d"], [["a", "b"], ["b", "c"], ["a", "b", "c"]])

    def test_lists_stay_and_tuples_stand_for_them(self):
        table = self.TABLE
        calls = [(lambda worths: best(table, worths, 1).chosen, [1, 2, 3]),
                 (lambda kepts: agree(kepts).shared, [Kept(table), Kept(table, [("c", "a")])]),
                 (lambda kepts: agree(kepts).laid, [Kept(Table(["a", "x"])), Kept(table, [("c", "a")])])]
        for call, told in calls:
            passed = list(told)
            found = call(passed)
            self.assertTrue(len(passed) == len(told) and all(one is other for one, other in zip(passed, told)))
            self.assertEqual(call(tuple(told)), found)

    def test_objects_stay(self):
        table, kept = self.TABLE, Kept(self.TABLE, [("c", "a")])

        def shown():
            return table.columns, table.rows, kept.pairs, kept.first(), kept.count()
        before = deepcopy(shown())
        found = [single_rows(table), single_columns(table), single_marks(table), fewest_rows(table, 1).rows,
                 best(table, [1, 2, 3], 2).prices, agree([kept, Kept(table)]).laid,
                 split(Ring.of(table), "a", "b", "c", "d").word]
        self.assertEqual(len(found), 7)
        self.assertEqual(shown(), before)

    def test_desks_do_not_share_anything(self):
        desk = Desk("a", "b", "c")
        desk.run("near a b\nwindow a 1 2")
        table, kept, found = desk.told_table(), desk.kept(), desk.verdict()
        text, layout = desk.text(), list(found.layout)
        desk.do("rename a z")
        desk.do("before c z")
        found.layout.clear()
        self.assertEqual((table.columns, kept.table.columns), (("a", "b", "c"), ("a", "b", "c")))
        self.assertEqual(Desk.read(text).verdict().layout, layout)
        self.assertEqual(desk.verdict().layout, ["c", "z", "b"])


if __name__ == "__main__":
    unittest.main()
