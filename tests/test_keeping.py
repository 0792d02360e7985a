import unittest
from itertools import combinations, islice, permutations
from math import factorial
from random import Random
from time import perf_counter

from helpers import (TWELVE, block_of, check_blocks, check_clash, check_new_lists, check_raises, check_turn,
                     in_one_piece, keeps_pairs, kept_of, layouts_of, pairs_of_order, random_pairs, small_tables,
                     small_tables_with_pairs, subsets, table_of_form, table_with_layout)
from unbrokenrows.errors import (BadNumber, BadOrder, BadPair, Clash, NoLayout, NotBefore, NotLayout, OtherColumns,
                                 SameColumn, UnknownColumn)
from unbrokenrows.keeping import Kept, Reason, fewest_out
from unbrokenrows.tables import Table
from unbrokenrows.trees import Tree

ABCD = Table(["a", "b", "c", "d"], [["a", "b"], ["b", "c"]])
NO_LAYOUT = Table(["a", "b", "c"], [["a", "b"], ["b", "c"], [], ["c", "a"], ["a"]])
SECONDS = 5


def kept_and_layouts(seed, many, most_columns=5):
    """Kept layouts as objects, with the lists that all orders give."""
    found = []
    for table, pairs in small_tables_with_pairs(seed, many, most_columns):
        orders = kept_of(table, pairs)
        if orders:
            found.append((Kept(table, pairs), orders))
    return found


class MakeTest(unittest.TestCase):
    def test_example(self):
        kept = Kept(ABCD, [("c", "a")])
        self.assertEqual([list(kept.kept_layouts()), kept.sure_pairs(),
                          fewest_out(ABCD, [("a", "c"), ("b", "a"), ("a", "b")])],
                         [[["c", "b", "a", "d"], ["d", "c", "b", "a"]],
                          [("b", "a"), ("c", "a"), ("c", "b")], [1]])

    def test_attributes(self):
        pairs = [["c", "a"], ("d", "b"), ["c", "a"]]
        kept = Kept(ABCD, pairs)
        pairs[0][0] = "b"
        pairs.append(("a", "c"))
        self.assertEqual(kept.table, ABCD)
        self.assertEqual(kept.pairs, (("c", "a"), ("d", "b"), ("c", "a")))
        self.assertTrue(all(isinstance(pair, tuple) for pair in kept.pairs))
        self.assertEqual(kept.tree, Tree.of(ABCD))
        self.assertEqual(Kept(ABCD).pairs, ())
        self.assertEqual(Kept(ABCD, (("a", "b"),)).pairs, (("a", "b"),))

    def test_too_many_pairs_come_first(self):
        for table in (ABCD, NO_LAYOUT):
            for pairs in ([("a", "b")] * 201, [("a", "x")] + [("a", "b")] * 200, [("a", "b"), ("b", "a")] * 150):
                for call in (Kept, fewest_out):
                    check_raises(self, BadPair, {"index": 200}, call, table, pairs)
        self.assertEqual(Kept(ABCD, [("a", "b")] * 200).count(), 2)

    def test_wrong_pairs(self):
        wrong = [("a",), (), ("a", "b", "c"), ("a", "a"), ("a", "x"), ("x", "a"), ("", "a"), ("a", "B"), ("a", "b", "b"),
                 ["a"], ("ab", "c")]
        for pair in wrong:
            for before in ([], [("a", "b")], [("a", "b"), ("b", "a")], [("c", "a")] * 199):
                for table in (ABCD, NO_LAYOUT):
                    for call in (Kept, fewest_out):
                        check_raises(self, BadPair, {"index": len(before)}, call, table,
                                     (before + [pair] + [("x", "y")])[:200])

    def test_no_layout_comes_before_a_clash(self):
        for call in (Kept, fewest_out):
            check_raises(self, NoLayout, {"number": 3}, call, NO_LAYOUT, [])
            check_raises(self, NoLayout, {"number": 3}, call, NO_LAYOUT, [("a", "b"), ("b", "a")])
        for table in small_tables(60, 400, 5, 7):
            if not layouts_of(table):
                with self.assertRaises(NoLayout) as told:
                    Tree.of(table)
                check_raises(self, NoLayout, {"number": told.exception.number}, Kept, table)

    def test_without_columns(self):
        for columns in ([], ["a"]):
            kept = Kept(Table(columns, [[], columns]))
            self.assertEqual([kept.count(), kept.first(), list(kept.kept_layouts()), kept.rank(columns),
                              columns in kept, kept.sure_pairs(), kept.needless_pairs(), kept.parting(kept),
                              kept.is_sure(columns), kept.is_sure([])],
                             [1, columns, [columns], 0, True, [], [], None, True, True])


class ClashTest(unittest.TestCase):
    def check_no_kept_layout(self, table, pairs):
        with self.assertRaises(Clash) as caught:
            Kept(table, pairs)
        clash = caught.exception
        self.assertIs(type(clash), Clash)
        self.assertEqual(list(vars(clash)), ["kind", "blocks", "pairs"])
        check_clash(self, table, pairs, clash.kind, clash.blocks, clash.pairs)
        return clash.kind

    def test_exactly_if_there_is_no_kept_layout(self):
        seen = {"ring": 0, "turn": 0, None: 0}
        for table, pairs in small_tables_with_pairs(61, 1500):
            kind = None
            if kept_of(table, pairs):
                Kept(table, pairs)
            else:
                kind = self.check_no_kept_layout(table, pairs)
            seen[kind] += 1
        self.assertGreater(min(seen.values()), 15)

    def test_firm_pieces_inside_each_other(self):
        random = Random(62)
        seen = {"ring": 0, "turn": 0}
        for _ in range(150):
            table = table_of_form(random, 7)
            pairs = random_pairs(random, table.columns, random.randint(2, 6))
            if not kept_of(table, pairs):
                seen[self.check_no_kept_layout(table, pairs)] += 1
        self.assertGreater(min(seen.values()), 5)

    def test_rings(self):
        for pairs in [("ab", "ba"), ("ab", "bc", "ca"), ("ab", "bc", "cd", "da"), ("da", "ab", "cd", "bc"),
                      ("ab", "ac", "bd", "cd", "db")]:
            self.assertEqual(self.check_no_kept_layout(Table.empty("a", "b", "c", "d"), pairs), "ring")
        blocks = Table(["a", "b", "c", "d", "e"], [["a", "b"], ["c", "d"]])
        self.assertEqual(self.check_no_kept_layout(blocks, ["ac", "eb", "de"]), "ring")

    def test_turns(self):
        line = Table(["a", "b", "c", "d"], [["a", "b"], ["b", "c"], ["c", "d"]])
        for pairs in [("ab", "ba"), ("ab", "dc"), ("dc", "ab"), ("ad", "cb"), ("ab", "cd", "db")]:
            self.assertEqual(self.check_no_kept_layout(line, pairs), "turn")

    def test_many_pairs(self):
        random = Random(63)
        for _ in range(30):
            table = table_of_form(random, 6)
            pairs = random_pairs(random, table.columns, 200)
            if not kept_of(table, pairs):
                self.check_no_kept_layout(table, pairs)

    def test_a_clash_stays_if_pairs_are_added(self):
        random = Random(64)
        for table, pairs in small_tables_with_pairs(65, 300):
            if not kept_of(table, pairs):
                more = pairs + random_pairs(random, table.columns, 2)
                self.check_no_kept_layout(table, more)
                self.check_no_kept_layout(table, more[::-1])


class NumberTest(unittest.TestCase):
    def test_kept_layouts(self):
        for kept, orders in kept_and_layouts(66, 600):
            self.assertEqual(kept.count(), len(orders))
            self.assertEqual(kept.first(), orders[0])
            self.assertEqual(list(kept.kept_layouts()), orders)
            for number, order in enumerate(orders):
                self.assertEqual(kept.kth(number), order)
                self.assertEqual(kept.rank(order), number)
                self.assertEqual(kept.rank(tuple(order)), number)
            for number in (-1, len(orders), -10 ** 9, 10 ** 9):
                check_raises(self, BadNumber, {"number": number}, kept.kth, number)

    def test_every_order(self):
        for kept, orders in kept_and_layouts(67, 120):
            for order in permutations(kept.table.columns):
                self.assertIs(list(order) in kept, list(order) in orders)
                self.assertIs(order in kept, list(order) in orders)
                if list(order) not in orders:
                    check_raises(self, NotLayout, {}, kept.rank, list(order))

    def test_six_columns(self):
        for kept, orders in kept_and_layouts(68, 40, 6):
            self.assertEqual(list(kept.kept_layouts()), orders)
            self.assertEqual([kept.rank(order) for order in orders], list(range(len(orders))))

    def test_firm_pieces_inside_each_other(self):
        random = Random(69)
        for _ in range(60):
            table = table_of_form(random, 6)
            pairs = pairs_of_order(random, Tree.of(table).first(), random.randint(0, 3))
            kept = Kept(table, pairs)
            self.assertEqual(list(kept.kept_layouts()), kept_of(table, pairs))

    def test_wrong_orders(self):
        kept = Kept(ABCD, [("c", "a")])
        for order, index in [([], 0), (["a"], 1), (["a", "b", "b", "c"], 2), (["e", "a", "b", "c"], 0),
                             (["c", "b", "a", "d", "x"], 4), (["c", "b", "a", "d", "a"], 4), (["", "b"], 0)]:
            check_raises(self, BadOrder, {"index": index}, kept.rank, order)
            self.assertIs(order in kept, False)
        for order in ["abcd", "acbd", "dabc"]:
            check_raises(self, NotLayout, {}, kept.rank, list(order))
            self.assertIs(list(order) in kept, False)

    def test_lists_are_new(self):
        kept = Kept(ABCD, [("c", "a")])
        for make in (kept.first, lambda: kept.kth(1), lambda: list(kept.kept_layouts()), kept.sure_pairs,
                     lambda: Kept(ABCD, [("a", "c"), ("a", "c")]).needless_pairs(),
                     lambda: kept.parting(Kept(ABCD, [("d", "a")])), lambda: fewest_out(ABCD, ["ab", "ba"])):
            check_new_lists(self, make)

    def test_walks(self):
        kept = Kept(Table(["a", "b", "c", "d"], [["b", "c"]]), [("a", "d")])
        orders = kept_of(kept.table, kept.pairs)
        one, other = kept.kept_layouts(), kept.kept_layouts()
        self.assertEqual(next(one), orders[0])
        for order in orders:
            self.assertEqual(next(other), order)
        self.assertEqual(next(one), orders[1])
        with self.assertRaises(StopIteration):
            next(other)
        found = []
        for order in kept.kept_layouts():
            found.append(list(order))
            order.reverse()
            order.append("x")
        self.assertEqual(found, orders)

    def test_twelve_columns(self):
        begun = perf_counter()
        kept = Kept(Table.empty(*TWELVE))
        self.assertEqual(kept.count(), factorial(12))
        self.assertEqual(kept.kth(factorial(12) - 1), TWELVE[::-1])
        self.assertEqual(kept.rank(TWELVE[::-1]), factorial(12) - 1)
        self.assertEqual(list(islice(kept.kept_layouts(), 3))[2], list("abcdefghikjl")[:9] + ["k", "j", "l"])
        pair = Kept(Table.empty(*TWELVE), [("l", "a")])
        self.assertEqual(pair.count(), factorial(12) // 2)
        self.assertEqual(pair.first(), ["b"] + list("cdefghijk") + ["l", "a"])
        self.assertEqual(pair.kth(factorial(12) // 2 - 1), ["l"] + list("kjihgfedcb") + ["a"])
        six = Kept(Table.empty(*TWELVE), ["ba", "dc", "fe", "hg", "ji", "lk"])
        self.assertEqual(six.count(), factorial(12) // 64)
        for number in (0, 1, 123456, factorial(12) // 64 - 1):
            order = six.kth(number)
            self.assertTrue(keeps_pairs(order, six.pairs))
            self.assertEqual(six.rank(order), number)
        self.assertLess(perf_counter() - begun, SECONDS)

    def test_many_pairs_of_twelve_columns(self):
        random = Random(70)
        begun = perf_counter()
        for rows in ([], [TWELVE[:6]] * 48, [TWELVE[:3], TWELVE[2:5]]):
            table = Table(TWELVE, rows)
            order = Tree.of(table).kth(Tree.of(table).count() // 3)
            kept = Kept(table, pairs_of_order(random, order, 200))
            self.assertTrue(order in kept)
            self.assertEqual(kept.kth(kept.rank(order)), order)
            for number in range(kept.count())[:200]:
                self.assertEqual(kept.rank(kept.kth(number)), number)
            self.assertLessEqual(set(kept.pairs), set(kept.sure_pairs()))
            for at in kept.needless_pairs()[:20]:
                fewer = Kept(table, kept.pairs[:at] + kept.pairs[at + 1:])
                self.assertEqual(fewer.count(), kept.count())
        self.assertLess(perf_counter() - begun, SECONDS)


class BeforeTest(unittest.TestCase):
    def check_reason(self, kept, reason, a, b):
        self.assertIsInstance(reason, Reason)
        blocks, pairs = reason.blocks, reason.pairs
        check_blocks(self, kept.table, blocks)
        self.assertIsInstance(pairs, tuple)
        self.assertTrue(set(pairs) <= set(kept.pairs))
        ways = [(block_of(blocks, one), block_of(blocks, other)) for one, other in pairs]
        if reason.kind == "chain":
            self.assertGreaterEqual(len(blocks), 2)
            self.assertEqual(ways, [(at, at + 1) for at in range(len(blocks) - 1)])
            self.assertEqual((block_of(blocks, a), block_of(blocks, b)), (0, len(blocks) - 1))
        else:
            self.assertEqual((reason.kind, len(pairs)), ("turn", 1))
            check_turn(self, kept.table, blocks)
            self.assertTrue(-1 < ways[0][0] < ways[0][1])
            self.assertTrue(-1 < block_of(blocks, a) < block_of(blocks, b))
        return reason.kind

    def check_two(self, kept, orders, a, b):
        sure = all(order.index(a) < order.index(b) for order in orders)
        self.assertIs(kept.is_before(a, b), sure)
        if sure:
            return self.check_reason(kept, kept.why(a, b), a, b)
        with self.assertRaises(NotBefore) as caught:
            kept.why(a, b)
        self.assertIn(caught.exception.order, orders)
        self.assertLess(caught.exception.order.index(b), caught.exception.order.index(a))
        return "open"

    def test_small_tables(self):
        seen = {"chain": 0, "turn": 0, "open": 0}
        for kept, orders in kept_and_layouts(71, 400):
            columns = kept.table.columns
            for a, b in permutations(columns, 2):
                seen[self.check_two(kept, orders, a, b)] += 1
            self.assertEqual(kept.sure_pairs(), [(a, b) for a, b in permutations(columns, 2)
                                                 if all(order.index(a) < order.index(b) for order in orders)])
        self.assertGreater(min(seen.values()), 30)

    def test_firm_pieces_inside_each_other(self):
        random = Random(72)
        seen = {"chain": 0, "turn": 0, "open": 0}
        for _ in range(60):
            table = table_of_form(random, 7)
            kept = Kept(table, pairs_of_order(random, Tree.of(table).first(), random.randint(1, 5)))
            orders = kept_of(table, kept.pairs)
            for a, b in permutations(table.columns, 2):
                seen[self.check_two(kept, orders, a, b)] += 1
        self.assertGreater(min(seen.values()), 30)

    def test_chains_and_turns(self):
        kept = Kept(Table.empty("a", "b", "c", "d"), ["bc", "ab", "cd", "ac"])
        self.assertEqual(kept.why("a", "d").pairs[-1], ("c", "d"))
        self.assertEqual(self.check_two(kept, kept_of(kept.table, kept.pairs), "a", "d"), "chain")
        line = Kept(ABCD, ["ca", "ca"])
        for a, b in ("ca", "cb", "ba"):
            self.assertEqual(self.check_two(line, kept_of(ABCD, line.pairs), a, b), "turn")

    def test_errors_in_turn(self):
        kept = Kept(ABCD, [("c", "a")])
        for call in (kept.is_before, kept.why):
            check_raises(self, UnknownColumn, {"name": "x"}, call, "x", "y")
            check_raises(self, UnknownColumn, {"name": "y"}, call, "a", "y")
            check_raises(self, UnknownColumn, {"name": "x"}, call, "x", "x")
            check_raises(self, UnknownColumn, {"name": ""}, call, "", "a")
            check_raises(self, SameColumn, {"name": "a"}, call, "a", "a")
        for a, b in ("ac", "ad", "bc", "da"):
            with self.assertRaises(NotBefore) as caught:
                kept.why(a, b)
            order = caught.exception.order
            self.assertEqual(vars(caught.exception), {"order": order})
            self.assertIsInstance(order, list)
            self.assertTrue(order in kept and order.index(b) < order.index(a))


class SureTest(unittest.TestCase):
    def test_small_tables(self):
        more = 0
        for kept, orders in kept_and_layouts(73, 400):
            for names in subsets(kept.table.columns):
                expected = all(in_one_piece(names, order) for order in orders)
                self.assertIs(kept.is_sure(names), expected)
                self.assertIs(kept.is_sure(tuple(names[::-1]) + tuple(names[:1])), expected)
                more += expected and not kept.tree.is_sure(names)
        self.assertGreater(more, 50)

    def test_unknown_column(self):
        kept = Kept(ABCD, [("c", "a")])
        check_raises(self, UnknownColumn, {"name": "x"}, kept.is_sure, ["a", "x", "y"])
        check_raises(self, UnknownColumn, {"name": ""}, kept.is_sure, ["", "x"])

    def test_twelve_columns(self):
        begun = perf_counter()
        line = Kept(Table.empty(*TWELVE), list(zip(TWELVE, TWELVE[1:])))
        self.assertEqual(line.count(), 1)
        self.assertTrue(line.is_sure(["c", "d", "e"]))
        self.assertFalse(line.is_sure(["c", "e"]))
        ends = Kept(Table.empty(*TWELVE), [("a", name) for name in TWELVE[1:]])
        self.assertEqual(ends.count(), factorial(11))
        self.assertTrue(ends.is_sure(TWELVE[1:]))
        self.assertFalse(ends.is_sure(TWELVE[:11]))
        self.assertLess(perf_counter() - begun, SECONDS)

    def test_plus(self):
        kept = Kept(ABCD, [("c", "a")])
        more = kept.plus(("d", "b"), ["c", "a"], ("c", "a"))
        self.assertEqual((more.table, more.pairs), (ABCD, (("c", "a"), ("d", "b"), ("c", "a"), ("c", "a"))))
        self.assertEqual(kept.pairs, (("c", "a"),))
        self.assertEqual(kept.plus().pairs, kept.pairs)
        self.assertEqual(list(more.kept_layouts()), [["d", "c", "b", "a"]])

    def test_plus_raises(self):
        kept = Kept(ABCD, [("c", "a")])
        check_raises(self, BadPair, {"index": 2}, kept.plus, ("a", "b"), ("a", "x"))
        check_raises(self, BadPair, {"index": 1}, kept.plus, ("b", "b"), ("a", "b"))
        check_raises(self, BadPair, {"index": 200}, kept.plus, *[("c", "a")] * 200)
        self.assertEqual(len(kept.plus(*[("c", "a")] * 199).pairs), 200)
        with self.assertRaises(Clash) as caught:
            kept.plus(("a", "b"))
        check_clash(self, ABCD, [("c", "a"), ("a", "b")], **vars(caught.exception))


class PartingTest(unittest.TestCase):
    def check_parting(self, one, other, layouts_one, layouts_other):
        order = one.parting(other)
        missing = [order for order in layouts_one if order not in layouts_other]
        if missing:
            self.assertIsInstance(order, list)
            self.assertIn(order, missing)
        else:
            self.assertIsNone(order)
        return bool(missing)

    def test_small_tables(self):
        random = Random(74)
        seen = {True: 0, False: 0}
        for kept, orders in kept_and_layouts(75, 500):
            columns = kept.table.columns
            order = random.choice(orders)
            ends = [sorted([random.randint(0, len(order)), random.randint(0, len(order))]) for _ in range(2)]
            rows = [order[low:high] for low, high in ends]
            for table in (Table(columns, rows), Table(columns, rows[:1]), kept.table):
                pairs = pairs_of_order(random, order, random.randint(0, 2))
                for other in (Kept(table, pairs), Kept(table, [*kept.pairs][:1])):
                    theirs = kept_of(table, other.pairs)
                    seen[self.check_parting(kept, other, orders, theirs)] += 1
                    seen[self.check_parting(other, kept, theirs, orders)] += 1
        self.assertGreater(min(seen.values()), 300)

    def test_same_kept_layouts(self):
        one = Kept(ABCD, [("c", "a")])
        other = Kept(Table(["a", "b", "c", "d"], [["b", "c"], ["b", "a"], []]), [("c", "b"), ("b", "a")])
        self.assertIsNone(one.parting(other))
        self.assertIsNone(other.parting(one))
        told = Kept(Table.empty("a", "b", "c"), ["ab", "bc"])
        rows = Kept(Table(["a", "b", "c"], [["a", "b"], ["b", "c"]]), ["ab"])
        self.assertIsNone(told.parting(rows))
        self.assertIsNone(rows.parting(told))

    def test_other_columns(self):
        kept = Kept(ABCD)
        for columns in ("abdc", "abc", "abcde", "abcx", ""):
            check_raises(self, OtherColumns, {}, kept.parting, Kept(Table(list(columns))))
            check_raises(self, OtherColumns, {}, Kept(Table(list(columns))).parting, kept)

    def test_twelve_columns(self):
        begun = perf_counter()
        free, pair = Kept(Table.empty(*TWELVE)), Kept(Table.empty(*TWELVE), ["ab", "cd"])
        row = Kept(Table(TWELVE, [["a", "l"], ["c", "d", "e"]]), ["ab"])
        self.assertIsNone(pair.parting(free))
        self.assertIsNone(row.parting(free))
        for one, other in [(free, pair), (free, row), (pair, row), (row, pair)]:
            order = one.parting(other)
            self.assertTrue(order in one)
            self.assertFalse(order in other)
        self.assertLess(perf_counter() - begun, SECONDS)


class NeedlessTest(unittest.TestCase):
    def test_small_tables(self):
        seen = 0
        for kept, orders in kept_and_layouts(76, 600):
            pairs = list(kept.pairs)
            expected = [at for at in range(len(pairs)) if kept_of(kept.table, pairs[:at] + pairs[at + 1:]) == orders]
            self.assertEqual(kept.needless_pairs(), expected)
            seen += len(expected)
        self.assertGreater(seen, 100)

    def test_doubles_and_chains(self):
        self.assertEqual(Kept(ABCD, ["ca", "da", "ca"]).needless_pairs(), [0, 2])
        self.assertEqual(Kept(Table.empty("a", "b", "c"), ["ab", "ac", "bc"]).needless_pairs(), [1])
        self.assertEqual(Kept(ABCD, ["ca", "cb", "ba"]).needless_pairs(), [0, 1, 2])

    def test_two_hundred_pairs(self):
        begun = perf_counter()
        pairs = list(combinations(TWELVE, 2))
        pairs = (pairs * 4)[:200]
        kept = Kept(Table.empty(*TWELVE), pairs)
        once = [at for at, pair in enumerate(pairs) if pairs.count(pair) == 1]
        expected = [at for at in range(200) if at not in once or
                    TWELVE.index(pairs[at][1]) - TWELVE.index(pairs[at][0]) > 1]
        self.assertEqual(kept.needless_pairs(), expected)
        self.assertLess(perf_counter() - begun, SECONDS)


class FewestOutTest(unittest.TestCase):
    def least(self, table, pairs):
        """The least number of pairs, all choices of pairs being tried."""
        for many in range(len(pairs) + 1):
            for left in combinations(range(len(pairs)), many):
                if kept_of(table, [pair for at, pair in enumerate(pairs) if at not in left]):
                    return many

    def check_left(self, table, pairs, most=None):
        found = fewest_out(table, pairs)
        self.assertIsInstance(found, list)
        self.assertEqual(found, sorted(set(found)))
        rest = [pair for at, pair in enumerate(pairs) if at not in found]
        self.assertEqual(len(rest), len(pairs) - len(found))
        Kept(table, rest)
        if most is not None:
            self.assertEqual(len(found), most)
        return len(found)

    def test_against_all_choices(self):
        seen = {}
        for table, pairs in small_tables_with_pairs(77, 150, 4):
            many = self.check_left(table, pairs, self.least(table, pairs))
            seen[many] = True
        self.assertLessEqual({0, 1, 2}, set(seen))

    def test_against_all_layouts(self):
        random = Random(78)
        for table, pairs in small_tables_with_pairs(79, 400):
            pairs = pairs + random.choices(pairs, k=3) if pairs else pairs
            least = min(sum(not keeps_pairs(order, [pair]) for pair in pairs) for order in layouts_of(table))
            self.check_left(table, pairs, least)

    def test_firm_pieces(self):
        random = Random(80)
        for _ in range(40):
            table = table_of_form(random, 7)
            pairs = random_pairs(random, table.columns, 12)
            least = min(sum(not keeps_pairs(order, [pair]) for pair in pairs) for order in layouts_of(table))
            self.check_left(table, pairs, least)

    def test_pairs_told_several_times(self):
        table = Table.empty("a", "b", "c")
        self.assertEqual(fewest_out(table, ["ab", "ba", "ab"]), [1])
        self.assertEqual(fewest_out(table, ["ba", "ab", "ba", "ab", "ba"]), [1, 3])
        self.assertEqual(fewest_out(ABCD, ["ac", "cb", "ba"]), [0])
        self.assertEqual(fewest_out(table, ["ab", "bc", "ab"]), [])
        self.assertEqual(fewest_out(Table([]), []), [])

    def test_two_hundred_pairs(self):
        random = Random(81)
        begun = perf_counter()
        for rows in ([], [TWELVE[:4], TWELVE[3:7]]):
            table = table_with_layout(random, TWELVE, 0).plus(*rows)
            pairs = random_pairs(random, TWELVE, 200)
            most = self.check_left(table, pairs)
            order = Tree.of(table).first()
            self.assertLessEqual(most, sum(not keeps_pairs(order, [pair]) for pair in pairs))
        self.assertLess(perf_counter() - begun, SECONDS)


if __name__ == "__main__":
    unittest.main()
