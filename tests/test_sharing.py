import unittest
from itertools import permutations
from random import Random
from time import perf_counter

from helpers import (TWELVE, check_raises, kept_of, pairs_of_order, random_pairs, table_of_form, table_with_layout)
from unbrokenrows.errors import BadNumber, BadSharing, Clash, NoAgreement, NoLayout
from unbrokenrows.keeping import Kept
from unbrokenrows.sharing import Agreement, agree
from unbrokenrows.tables import Table
from unbrokenrows.trees import Tree

SECONDS = 5


def rest_of(order, columns):
    return [name for name in order if name in columns]


def common_orders(kepts):
    """The orders of the shared columns that a kept layout of each object leaves, ascending by the first table."""
    first = kepts[0].table.columns
    columns = [name for name in first if all(kept.table.has(name) for kept in kepts)]
    ways = [{tuple(rest_of(order, columns)) for order in kept_of(kept.table, kept.pairs)} for kept in kepts]
    found = set.intersection(*ways)
    return columns, [list(order) for order in sorted(found, key=lambda order: [first.index(name) for name in order])]


def random_kept(random, columns):
    """Any kept layouts of these columns, told in a random sequence."""
    while True:
        table = table_with_layout(random, random.sample(columns, len(columns)), random.choice([0, 1, 2, 3, 4]))
        try:
            return Kept(table, random_pairs(random, columns, random.choice([0, 0, 1, 2, 3])))
        except Clash:
            pass


def random_kepts(random, many, most_columns=5):
    """Objects that share some columns, each with columns of its own."""
    shared = TWELVE[:random.randint(0, 4)]
    found = []
    for at in range(many):
        own = [f"own{'abcd'[at]}{letter}" for letter in "xyz"[:random.randint(0, most_columns - len(shared))]]
        found.append(random_kept(random, shared + own))
    return found


def great_kept(random, shared, own, order=None):
    """Kept layouts of 12 columns and 48 rows; with an order, one of them leaves it of the shared columns."""
    columns = shared + own
    hidden = random.sample(columns, len(columns))
    if order is not None:
        names = iter(order)
        hidden = [next(names) if name in shared else name for name in hidden]
    rows = []
    for _ in range(48):
        low, high = sorted([random.randint(0, len(hidden)), random.randint(0, len(hidden))])
        rows.append(hidden[low:min(high, low + 4)])
    return Kept(Table(random.sample(columns, len(columns)), rows), pairs_of_order(random, hidden, 5))


class CheckAgreement(unittest.TestCase):
    def check_agreement(self, kepts, found):
        self.assertIsInstance(found, Agreement)
        self.assertIsInstance(found.shared, list)
        self.assertIsInstance(found.laid, list)
        self.assertEqual(len(found.laid), len(kepts))
        for kept, order in zip(kepts, found.laid):
            self.assertIsInstance(order, list)
            self.assertTrue(order in kept)
            self.assertEqual(rest_of(order, found.shared), found.shared)
            self.assertTrue(found.shared in Tree.of(kept.table).only(found.shared))

    def check_no_agreement(self, kepts, error):
        first = kepts[0].table.columns
        shared = tuple(name for name in first if all(kept.table.has(name) for kept in kepts))
        self.assertIsInstance(error.table, Table)
        self.assertEqual(error.table.columns, shared)
        for told in (error.sets, error.pairs, error.sources):
            self.assertIsInstance(told, tuple)
        self.assertEqual(len(error.sets), len(error.table))
        for row, (at, names) in zip(error.table.rows, error.sets):
            table = kepts[at].table
            self.assertEqual(names, tuple(rest_of(table.columns, names)))
            self.assertTrue(Tree.of(table).is_sure(names))
            self.assertEqual(row, tuple(rest_of(shared, names)))
        self.assertEqual(len(set(error.pairs)), len(error.pairs))
        self.assertEqual(len(error.sources), len(error.pairs))
        for (a, b), at in zip(error.pairs, error.sources):
            self.assertTrue(a in shared and b in shared and kepts[at].is_before(a, b))
        with self.assertRaises((NoLayout, Clash)):
            Kept(error.table, error.pairs)


class AgreeTest(CheckAgreement):
    def test_all_kept_layouts(self):
        random = Random(430)
        seen = {True: 0, False: 0}
        for many in (1, 2, 2, 2, 3, 3, 4) * 150:
            kepts = random_kepts(random, many)
            columns, orders = common_orders(kepts)
            seen[bool(orders)] += 1
            if orders:
                found = agree(kepts)
                self.assertEqual(found.shared, orders[0])
                self.check_agreement(kepts, found)
            else:
                with self.assertRaises(NoAgreement) as caught:
                    agree(tuple(kepts))
                self.assertEqual(list(caught.exception.table.columns), columns)
                self.check_no_agreement(kepts, caught.exception)
        self.assertGreater(min(seen.values()), 60)

    def test_firm_pieces_inside_each_other(self):
        random = Random(431)
        for _ in range(80):
            one = table_of_form(random, 7)
            shared = random.sample(one.columns, min(len(one.columns), 4))
            kept = Kept(one, pairs_of_order(random, Tree.of(one).first(), random.choice([0, 1, 2])))
            order = random.sample(shared, len(shared))
            other = Kept(Table([*order, "z"], [order]), list(zip(order, order[1:])))
            expected = any(rest_of(one, shared) == order for one in kept_of(kept.table, kept.pairs))
            try:
                found = agree([other, kept])
                self.assertEqual((expected, found.shared), (True, order))
                self.check_agreement([other, kept], found)
            except NoAgreement as error:
                self.assertFalse(expected)
                self.check_no_agreement([other, kept], error)

    def test_one_object(self):
        kept = Kept(Table(["c", "a", "b"], [["a", "b"]]), [("a", "c")])
        found = agree([kept])
        self.assertEqual((found.shared, found.laid), (kept.first(), [kept.first()]))

    def test_no_common_column(self):
        one, other = Kept(Table(["a", "b"]), [("b", "a")]), Kept(Table(["c", "d", "e"], [["c", "e"]]))
        found = agree([one, other])
        self.assertEqual((found.shared, found.laid[0]), ([], ["b", "a"]))
        self.check_agreement([one, other], found)
        self.assertEqual(agree([Kept(Table.empty()), one]).laid, [[], ["b", "a"]])

    def test_least_by_the_columns_of_the_first_table(self):
        one, other = Kept(Table(["b", "a", "c"])), Kept(Table(["a", "b", "c"]))
        self.assertEqual(agree([one, other]).shared, ["b", "a", "c"])
        self.assertEqual(agree([other, one]).shared, ["a", "b", "c"])

    def test_same_columns(self):
        """Point [80]."""
        random = Random(432)
        for _ in range(200):
            columns = random.sample(TWELVE[:5], random.randint(1, 5))
            one, other = [random_kept(random, columns) for _ in range(2)]
            table = Table(columns, one.table.rows), Table(columns, other.table.rows)
            one, other = Kept(table[0], one.pairs), Kept(table[1], other.pairs)
            try:
                expected = Kept(one.table | other.table, one.pairs + other.pairs).first()
                self.assertEqual(agree([one, other]).shared, expected)
            except (NoLayout, Clash):
                with self.assertRaises(NoAgreement) as caught:
                    agree([one, other])
                self.check_no_agreement([one, other], caught.exception)

    def test_four_great_objects(self):
        random = Random(433)
        begun = perf_counter()
        for shared in (TWELVE, TWELVE[:8], TWELVE[:4], []):
            order = random.sample(shared, len(shared))
            names = [[f"{letter}{word}" for word in ("aa", "bb", "cc", "dd", "ee", "ff", "gg", "hh", "ii", "jj", "kk",
                                                     "ll")[:12 - len(shared)]] for letter in "pqrs"]
            self.check_great([great_kept(random, shared, own, order) for own in names])
            kepts = [great_kept(random, shared, own) for own in names]
            try:
                self.check_agreement(kepts, agree(kepts))
            except NoAgreement as error:
                self.check_no_agreement(kepts, error)
        free = [Kept(Table.empty(*TWELVE)) for _ in range(4)]
        self.assertEqual(agree(free).shared, TWELVE)
        chains = [Kept(Table(TWELVE), list(zip(order, order[1:]))) for order in (TWELVE, TWELVE[::-1])]
        with self.assertRaises(NoAgreement) as caught:
            agree(chains + chains)
        self.check_no_agreement(chains + chains, caught.exception)
        self.assertLess(perf_counter() - begun, SECONDS)

    def check_great(self, kepts):
        self.check_agreement(kepts, agree(kepts))

    def test_arguments_and_results(self):
        kepts = [Kept(Table(["a", "b"])), Kept(Table(["b", "c", "a"]))]
        passed = list(kepts)
        found = agree(passed)
        self.assertTrue(len(passed) == 2 and all(one is other for one, other in zip(passed, kepts)))
        before = (list(found.shared), [list(order) for order in found.laid])
        found.shared.clear()
        for order in found.laid:
            order.clear()
        self.assertEqual((agree(kepts).shared, agree(tuple(kepts)).laid), before)


class ErrorTest(CheckAgreement):
    def test_bad_number(self):
        kept = Kept(Table(["a"]))
        for many in (0, 5, 6, 20):
            check_raises(self, BadNumber, {"number": many}, agree, [kept] * many)
        other = Kept(Table(["b"]))
        check_raises(self, BadNumber, {"number": 5}, agree, [kept, other, kept, other, kept])
        self.assertEqual(agree([kept] * 4).laid, [["a"]] * 4)

    def test_bad_sharing(self):
        tables = {"ab": Kept(Table(["a", "b"])), "ac": Kept(Table(["a", "c"])), "bc": Kept(Table(["b", "c"])),
                  "a": Kept(Table(["a"])), "d": Kept(Table(["d"])), "abc": Kept(Table(["c", "a", "b"]))}
        for words, one, other in [("ab ac bc", 0, 2), ("ab a d", 0, 2), ("a d ab", 0, 2), ("a d d", 1, 2),
                                  ("ab ac ac", 1, 2), ("ab ac a ab", 0, 3), ("d a ab ac", 1, 2), ("ab abc abc", 1, 2),
                                  ("ab ab ab a", 0, 3), ("a ab abc d", 0, 3), ("a ab ac abc", 1, 3)]:
            check_raises(self, BadSharing, {"one": one, "other": other}, agree, [tables[word] for word in words.split()])
        self.assertEqual(agree([tables[word] for word in ("ab", "a", "ac")]).shared, ["a"])

    def test_bad_sharing_comes_ahead_of_no_agreement(self):
        kepts = [Kept(Table(["a", "b"]), [("a", "b")]), Kept(Table(["a", "b"]), [("b", "a")]), Kept(Table(["a"]))]
        check_raises(self, BadSharing, {"one": 0, "other": 2}, agree, kepts)
        with self.assertRaises(NoAgreement):
            agree(kepts[:2])

    def test_no_agreement_by_rows_alone(self):
        kepts = [Kept(Table(["a", "b", "c", "x"], [["a", "x", "b"]])), Kept(Table(["c", "b", "a"], [["b", "c"]])),
                 Kept(Table(["a", "y", "b", "c"], [["a", "y", "c"], ["y", "c"]]))]
        with self.assertRaises(NoAgreement) as caught:
            agree(kepts)
        self.check_no_agreement(kepts, caught.exception)
        self.assertEqual(caught.exception.pairs, ())
        for order in permutations(kepts):
            with self.assertRaises(NoAgreement) as caught:
                agree(order)
            self.check_no_agreement(order, caught.exception)


if __name__ == "__main__":
    unittest.main()
