import unittest
from itertools import islice, permutations, product
from math import factorial
from random import Random

from helpers import (TWELVE, check_raises, in_one_piece, layouts_of, layouts_of_form, random_form, random_table,
                     small_tables, subsets, table_with_layout)
from unbrokenrows.errors import (BadForm, BadNumber, BadOrder, BadTable, NoCommon, NoLayout, NotLayout,
                                 OtherColumns, UnknownColumn)
from unbrokenrows.forms import form_text, read_form
from unbrokenrows.tables import Table
from unbrokenrows.trees import Tree

WRONG_ORDERS = [([], 0), (["a"], 1), (["a", "b", "c"], 3), (["a", "b", "b", "c"], 2), (["e", "a", "b", "c"], 0),
                (["a", "b", "c", "d", "a"], 4), (["a", "b", "c", "d", "x"], 4), (["a", "b", "", "a"], 2)]


def numbers(order, columns):
    return [columns.index(name) for name in order]


def first_number(part, columns):
    names = [part] if isinstance(part, str) else [name for name in columns if name in flat(part)]
    return columns.index(names[0])


def flat(part):
    return [part] if isinstance(part, str) else [name for child in part[1:] for name in flat(child)]


def is_normal(part, columns):
    if isinstance(part, str) or part == ():
        return True
    firsts = [first_number(child, columns) for child in part[1:]]
    right = firsts == sorted(firsts) if part[0] == "loose" else firsts[0] < firsts[-1]
    return right and all(is_normal(child, columns) for child in part[1:])


def sure_sets_of(layouts, columns):
    """All sets with two or more columns that are in one piece in all of these orders."""
    return [tuple(names) for names in subsets(columns)
            if len(names) > 1 and all(in_one_piece(names, order) for order in layouts)]


def small_trees(seed, many, most_columns=5):
    trees = []
    for table in small_tables(seed, many, most_columns, 4):
        if layouts_of(table):
            trees.append((table, Tree.of(table)))
    return trees


def random_trees(seed, many, most_columns=12):
    random = Random(seed)
    names = [TWELVE[:random.randint(0, most_columns)] for _ in range(many)]
    return [Tree.made(columns, random_form(random, columns)) for columns in names]


def table_of_small_rows(random, columns):
    rows = [random.sample(columns, random.choice([2, 2, 2, 3, 3, 4, 5])) for _ in range(random.randint(2, 5))]
    return Table(columns, rows)


def rebuilt(tree):
    return Tree.of(Table(tree.columns, tree.telling_rows()))


class BuildTest(unittest.TestCase):
    def test_example(self):
        tree = Tree.of(Table(["a", "b", "c", "d"], [["a", "b"], ["b", "c"]]))
        self.assertEqual([str(tree), tree.count(), tree.kth(1), tree.rank(["d", "a", "b", "c"])], [
            "([a b c] d)", 4, ["c", "b", "a", "d"], 2])
        self.assertEqual([tree.pieces(), tree.sure_sets(), tree.telling_rows(), str(tree.only(["d", "c", "a"]))], [
            [("loose", (("a", "b", "c"), ("d",))), ("firm", (("a",), ("b",), ("c",)))],
            [("a", "b"), ("b", "c"), ("a", "b", "c"), ("a", "b", "c", "d")], [("a", "b"), ("b", "c")],
            "((a c) d)"])

    def test_layouts_are_those_of_the_table(self):
        for table in small_tables(6, 1500):
            expected = layouts_of(table)
            if expected:
                tree = Tree.of(table)
                self.assertEqual(list(tree.layouts()), expected)
                self.assertTrue(is_normal(tree.form, list(tree.columns)))
                self.assertEqual(tree.columns, table.columns)
            else:
                with self.assertRaises(NoLayout):
                    Tree.of(table)

    def test_no_layout_has_the_least_number(self):
        seen = {}
        for table in small_tables(7, 1500, 5, 7):
            many = [len(layouts_of(Table(table.columns, table.rows[:k]))) for k in range(len(table) + 1)]
            if many[-1] == 0:
                number = many.index(0) - 1
                seen[number] = True
                check_raises(self, NoLayout, {"number": number}, Tree.of, table)
        self.assertEqual(sorted(seen), [2, 3, 4, 5, 6])

    def test_more_columns(self):
        random = Random(31)
        possible = 0
        for _ in range(250):
            table = table_of_small_rows(random, TWELVE[:6])
            expected = layouts_of(table)
            if expected:
                possible += 1
                self.assertEqual(list(Tree.of(table).layouts()), expected)
            else:
                with self.assertRaises(NoLayout):
                    Tree.of(table)
        self.assertTrue(50 < possible < 200)

    def test_too_many_half_full_children(self):
        for rows in ["ab cd ef ace", "ab cd ef bdf", "ab cd abcd ace", "ab cd ef abcd ace", "ab cd abcd cdg ace",
                     "ab cd abcd abg cdg", "ab cd ef abcdef acg", "ab cd ef abcd cdef acg", "ab cd ef abcd cdef acgh",
                     "ab cd ef abcd cdef ceg", "ab cd ef abcd cdef aceg"]:
            rows = rows.split()
            table = Table(list("abcdefgh"), rows)
            check_raises(self, NoLayout, {"number": len(rows) - 1}, Tree.of, table)
            self.assertEqual(layouts_of(table.only(sorted(set("".join(rows))))), [])

    def test_half_full_children(self):
        for rows, text in [
                ("ab cd ac", "([b a c d] e f)"), ("ab cd ace", "([b a e c d] f)"), ("abc ab ade", "([c b a (d e)] f)"),
                ("abc def ad", "[(b c) a d (e f)]"), ("abcd ab cd ae", "([(c d) b a e] f)"),
                ("ab bc de abcde ef", "[[a b c] d e f]"), ("ab ef abcdef abcd ac", "(([b a c] d) (e f))")]:
            table = Table(list("abcdef"), rows.split())
            self.assertEqual(str(Tree.of(table)), text)
            self.assertEqual(list(Tree.of(table).layouts()), layouts_of(table))

    def test_hidden_orders_of_many_columns(self):
        random = Random(8)
        for _ in range(60):
            table = table_with_layout(random, TWELVE[:random.randint(6, 12)], random.randint(0, 48))
            tree = Tree.of(table)
            self.assertTrue(is_normal(tree.form, list(tree.columns)))
            self.assertEqual(rebuilt(tree), tree)
            for number in {0, tree.count() // 2, tree.count() - 1}:
                order = tree.kth(number)
                self.assertTrue(all(in_one_piece(row, order) for row in table))
            self.assertTrue(all(tree.is_sure(row) for row in table))

    def test_no_columns_and_one_column(self):
        empty, one = Tree.of(Table([], [[], []])), Tree.of(Table(["a"], [["a"], []]))
        self.assertEqual([(t.form, str(t), len(t), t.count(), t.first(), list(t.layouts())) for t in (empty, one)], [
            ((), "()", 0, 1, [], [[]]), ("a", "a", 1, 1, ["a"], [["a"]])])
        for tree in (empty, one):
            self.assertEqual([tree.pieces(), tree.sure_sets(), tree.telling_rows()], [[], [], []])
            self.assertTrue(tree.is_sure(tree.columns))
            self.assertTrue(list(tree.columns) in tree)
            self.assertEqual(tree.rank(list(tree.columns)), 0)
            self.assertEqual(tree & tree, tree)
            self.assertEqual(tree | tree, tree)
            self.assertEqual(Tree.holding(tree.columns, tree.columns), tree)

    def test_columns_called_like_the_words(self):
        table = Table(["loose", "firm", "a"], [["firm", "a"]])
        self.assertEqual((Tree.of(table).form, str(Tree.of(table))), (
            ("loose", "loose", ("loose", "firm", "a")), "(loose (firm a))"))
        self.assertEqual(Tree.made(["loose"], "loose").form, "loose")
        self.assertEqual(Tree.made(["firm", "loose", "a"], ("firm", "loose", "firm", "a")).form, (
            "firm", "loose", "firm", "a"))


class MadeTest(unittest.TestCase):
    def test_normal_form_has_the_same_layouts(self):
        random = Random(9)
        for _ in range(400):
            columns = random.sample(TWELVE[:5], random.randint(0, 5))
            form = random_form(random, columns)
            tree = Tree.made(columns, form)
            self.assertTrue(is_normal(tree.form, columns))
            self.assertEqual(sorted(layouts_of_form(tree.form)), sorted(layouts_of_form(form)))
            expected = sorted(layouts_of_form(form), key=lambda order: numbers(order, columns))
            self.assertEqual(list(tree.layouts()), expected)

    def test_trees_of_forms_with_many_columns(self):
        for tree in random_trees(10, 200):
            self.assertTrue(is_normal(tree.form, list(tree.columns)))
            self.assertEqual(Tree.made(tree.columns, read_form(str(tree))), tree)
            self.assertEqual(str(tree), form_text(tree.form))

    def test_normal_sequences(self):
        columns = ["a", "b", "c", "d", "e"]
        for form, text in [
                (("loose", "e", ("firm", "d", "b", "c"), "a"), "(a [c b d] e)"),
                (("loose", "e", ("firm", "c", "d", "b"), "a"), "(a [b d c] e)"),
                (("firm", "e", ("loose", "d", "c"), ("loose", "b", "a")), "[(a b) (c d) e]"),
                (("firm", ("loose", "e", "b"), "a", ("loose", "d", "c")), "[(b e) a (c d)]")]:
            self.assertEqual(str(Tree.made(columns, form)), text)

    def test_bad_columns_come_first(self):
        check_raises(self, BadTable, {"part": "columns", "index": 0}, Tree.made, TWELVE + ["A"], ())
        check_raises(self, BadTable, {"part": "column", "index": 1}, Tree.made, ["a", "a"], ())
        check_raises(self, BadTable, {"part": "column", "index": 0}, Tree.made, ["A", "a"], "x")

    def test_bad_forms(self):
        for form in [
                (), "a", "c", "", ("a", "b"), ("loose",), ("firm",), ("loose", "a"), ("loose", ("loose", "a", "b")),
                ("firm", "a", "b"), ("loose", "a", "c"), ("loose", "a", "b", "c"), ("loose", "a", "b", "a"),
                ("loose", "a", ()), ("loose", "a", "b", ()), ("firm", "a", "b", ()), ((), "a", "b"),
                (("loose", "a", "b"),), (("loose",), "a", "b"), ("Loose", "a", "b"), ("", "a", "b"),
                ("loose", "a", ("b",)), ("loose", ("loose", "a"), "b"), ("loose", "loose", "a", "b"),
                ("firm", "a", ("firm", "b")), (("loose", "a", "b"), "a"), "a b", "(a b)", "loose"]:
            check_raises(self, BadForm, {}, Tree.made, ["a", "b"], form)
        for form in ["a", ("loose", "a", "b"), ("loose",), ""]:
            check_raises(self, BadForm, {}, Tree.made, [], form)
        check_raises(self, BadForm, {}, Tree.made, ["a"], ())
        check_raises(self, BadForm, {}, Tree.made, ["a", "b", "c"], ("firm", "a", "b"))
        deep = "a"
        for _ in range(5000):
            deep = ("loose", "b", deep)
        check_raises(self, BadForm, {}, Tree.made, ["a", "b"], deep)

    def test_equality(self):
        tree = Tree.made(["a", "b", "c"], ("firm", "c", "b", "a"))
        self.assertTrue(tree == Tree.of(Table(["a", "b", "c"], [["a", "b"], ["b", "c"]])))
        self.assertFalse(tree == Tree.made(["a", "b", "c"], ("firm", "b", "a", "c")))
        self.assertFalse(tree == Tree.made(["c", "b", "a"], ("firm", "a", "b", "c")))
        self.assertTrue(tree != Tree.made(["a", "b", "c"], ("loose", "a", "b", "c")))
        self.assertEqual((len(tree), tree.columns, tree.form, str(tree)), (
            3, ("a", "b", "c"), ("firm", "a", "b", "c"), "[a b c]"))


class NumberTest(unittest.TestCase):
    def test_all_numbers(self):
        for _, tree in small_trees(11, 400):
            orders = list(tree.layouts())
            self.assertEqual(tree.count(), len(orders))
            self.assertEqual(tree.first(), orders[0])
            for number, order in enumerate(orders):
                self.assertEqual(tree.kth(number), order)
                self.assertEqual(tree.rank(order), number)
            for order in permutations(tree.columns):
                self.assertIs(order in tree, list(order) in orders)
                if list(order) not in orders:
                    check_raises(self, NotLayout, {}, tree.rank, order)
            for number in (-1, len(orders), -len(orders), 10 ** 9):
                check_raises(self, BadNumber, {"number": number}, tree.kth, number)

    def test_ascending_with_many_columns(self):
        for tree in random_trees(12, 60):
            columns = list(tree.columns)
            step = max(1, tree.count() // 50)
            chosen = list(range(0, tree.count(), step))
            orders = [tree.kth(number) for number in chosen]
            self.assertEqual([tree.rank(order) for order in orders], chosen)
            self.assertTrue(all(order in tree for order in orders))
            lists = [numbers(order, columns) for order in orders]
            self.assertEqual(lists, sorted(lists))

    def test_rank_of_wrong_lists(self):
        tree = Tree.of(Table(["a", "b", "c", "d"], [["a", "b"]]))
        for order, index in WRONG_ORDERS:
            check_raises(self, BadOrder, {"index": index}, tree.rank, order)
            self.assertIs(order in tree, False)
            self.assertIs(tuple(order) in tree, False)
        check_raises(self, NotLayout, {}, tree.rank, ["a", "c", "b", "d"])
        self.assertIs(["a", "c", "b", "d"] in tree, False)
        self.assertIs(["a", "b", "c", "d"] in tree, True)

    def test_twelve_loose_columns(self):
        tree = Tree.of(Table.empty(*TWELVE))
        self.assertEqual(tree.count(), 479001600)
        self.assertEqual(tree.first(), TWELVE)
        self.assertEqual(tree.kth(479001599), TWELVE[::-1])
        self.assertEqual(tree.rank(TWELVE[::-1]), 479001599)
        self.assertEqual(tree.kth(factorial(11)), ["b", "a"] + TWELVE[2:])
        self.assertEqual(list(islice(tree.layouts(), 24)), [TWELVE[:8] + list(p) for p in permutations("ijkl")])
        check_raises(self, BadNumber, {"number": 479001600}, tree.kth, 479001600)

    def test_counts(self):
        for text, many in [("(a b)", 2), ("[a b c]", 2), ("(a b c d)", 24), ("((a b) [c d e] f)", 24),
                           ("[(a b c) d (e f)]", 24), ("(a b c d e f g h i j k l)", 479001600)]:
            form = read_form(text)
            self.assertEqual(Tree.made(sorted(flat(form)), form).count(), many)


class WalkTest(unittest.TestCase):
    def setUp(self):
        self.tree = Tree.made(["a", "b", "c", "d", "e"], ("loose", ("firm", "a", "c", "e"), "b", "d"))

    def test_lists_are_new(self):
        expected = [self.tree.kth(number) for number in range(12)]
        self.assertEqual(list(self.tree.layouts()), expected)
        seen = []
        for order in self.tree.layouts():
            seen.append(list(order))
            order.reverse()
            order.append("x")
        self.assertEqual(seen, expected)
        self.assertEqual(list(self.tree.layouts()), expected)

    def test_two_walks_side_by_side(self):
        expected = list(self.tree.layouts())
        one, other = self.tree.layouts(), self.tree.layouts()
        found = [next(one), next(one), next(other), next(one), next(other)]
        self.assertEqual(found, [expected[k] for k in (0, 1, 0, 2, 1)])
        one.close()
        self.assertEqual([next(other), next(other)], expected[2:4])
        self.assertEqual(list(other), expected[4:])

    def test_it_is_a_generator(self):
        walk = self.tree.layouts()
        self.assertIs(iter(walk), walk)
        self.assertEqual(len(list(walk)), 12)
        self.assertEqual(list(walk), [])

    def test_a_walk_can_be_broken_off(self):
        for order in Tree.of(Table.empty(*TWELVE)).layouts():
            if order[11] == "a":
                break
            if order[10] == "j":
                break
        self.assertEqual(order[10], "j")


class PieceTest(unittest.TestCase):
    def test_pieces(self):
        tree = Tree.made(TWELVE[:8], read_form("(a [b (c d) [e g f]] h)"))
        self.assertEqual(tree.pieces(), [
            ("loose", (("a",), ("b", "c", "d", "e", "f", "g"), ("h",))),
            ("firm", (("b",), ("c", "d"), ("e", "f", "g"))),
            ("loose", (("c",), ("d",))),
            ("firm", (("e",), ("g",), ("f",)))])
        self.assertEqual([tree.lowest(names) for names in [
            ["a", "b"], ["h", "a"], ["b", "c"], ["c", "d"], ["d", "c", "d"], ["e", "f"], ["f", "b"], ["f", "g", "e"],
            TWELVE[:8]]], [0, 0, 1, 2, 2, 3, 1, 3, 0])

    def test_pieces_in_the_sequence_of_the_text(self):
        for tree in random_trees(13, 100):
            signs = [sign for sign in str(tree) if sign in "(["] if len(tree) > 1 else []
            words = ["loose" if sign == "(" else "firm" for sign in signs]
            self.assertEqual([word for word, _ in tree.pieces()], words)
            for _, blocks in tree.pieces():
                for block in blocks:
                    self.assertEqual(block, tuple([name for name in tree.columns if name in block]))

    def test_lowest_is_the_least_piece(self):
        for tree in random_trees(14, 60, 6):
            unions = [[name for block in blocks for name in block] for _, blocks in tree.pieces()]
            for names in subsets(tree.columns):
                if len(names) > 1:
                    having = [k for k in range(len(unions)) if set(names) <= set(unions[k])]
                    self.assertEqual(tree.lowest(names), having[-1])
                    self.assertEqual(len(unions[having[-1]]), min(len(unions[k]) for k in having))

    def test_lowest_raises(self):
        tree = Tree.of(Table.empty("a", "b", "c"))
        check_raises(self, UnknownColumn, {"name": "d"}, tree.lowest, ["d", "e"])
        check_raises(self, UnknownColumn, {"name": "d"}, tree.lowest, ["a", "d"])
        check_raises(self, BadNumber, {"number": 0}, tree.lowest, [])
        check_raises(self, BadNumber, {"number": 1}, tree.lowest, ["b"])
        check_raises(self, BadNumber, {"number": 1}, tree.lowest, ("b", "b", "b"))
        check_raises(self, BadNumber, {"number": 0}, Tree.of(Table([])).lowest, [])
        check_raises(self, UnknownColumn, {"name": "a"}, Tree.of(Table([])).lowest, ["a"])

    def test_changing_what_is_returned_changes_nothing(self):
        tree = Tree.made(["a", "b", "c", "d"], read_form("([a b c] d)"))
        for call in (tree.pieces, tree.sure_sets, tree.telling_rows, tree.first, lambda: tree.kth(1)):
            before = list(call())
            call().clear()
            self.assertEqual(call(), before)


class SureTest(unittest.TestCase):
    def test_is_sure(self):
        for _, tree in small_trees(15, 300):
            layouts = list(tree.layouts())
            for names in subsets(tree.columns):
                sure = all(in_one_piece(names, order) for order in layouts)
                self.assertIs(tree.is_sure(names), sure)
                self.assertIs(tree.is_sure(tuple(names[::-1] + names[:2])), sure)

    def test_sure_sets(self):
        for _, tree in small_trees(16, 300):
            columns = list(tree.columns)
            expected = sure_sets_of(list(tree.layouts()), columns)
            expected = sorted(expected, key=lambda names: (len(names), numbers(names, columns)))
            self.assertEqual(tree.sure_sets(), expected)

    def test_sure_sets_of_twelve_firm_columns(self):
        tree = Tree.made(TWELVE, ("firm", *TWELVE))
        self.assertEqual(tree.sure_sets(), [
            tuple(TWELVE[low:low + many]) for many in range(2, 13) for low in range(13 - many)])

    def test_is_sure_raises(self):
        tree = Tree.of(Table.empty("a", "b"))
        check_raises(self, UnknownColumn, {"name": "d"}, tree.is_sure, ["a", "d", "e"])
        check_raises(self, UnknownColumn, {"name": ""}, tree.is_sure, ["", "d"])

    def test_telling_rows(self):
        tree = Tree.made(TWELVE[:8], read_form("(a [b (c d) [e g f]] h)"))
        self.assertEqual(tree.telling_rows(), [
            ("b", "c", "d"), ("c", "d", "e", "f", "g"), ("c", "d"), ("e", "g"), ("f", "g")])
        self.assertEqual(Tree.made(["a", "b"], ("loose", "a", "b")).telling_rows(), [])
        self.assertEqual(Tree.made(["a", "b", "c"], read_form("[a c b]")).telling_rows(), [("a", "c"), ("b", "c")])

    def test_telling_rows_give_the_same_tree(self):
        for tree in random_trees(17, 200):
            self.assertEqual(rebuilt(tree), tree)
            for names in tree.telling_rows():
                self.assertTrue(tree.is_sure(names))


class OnlyTest(unittest.TestCase):
    def test_only(self):
        for _, tree in small_trees(18, 120):
            columns = list(tree.columns)
            for names in subsets(columns):
                left = [[name for name in order if name in names] for order in tree.layouts()]
                left = sorted(left, key=lambda order: numbers(order, columns))
                expected = [order for at, order in enumerate(left) if at == 0 or order != left[at - 1]]
                found = tree.only(names[::-1] + names[:1])
                self.assertEqual(found.columns, tuple(names))
                self.assertEqual(list(found.layouts()), expected)
                self.assertTrue(is_normal(found.form, names))

    def test_only_of_many_columns(self):
        tree = Tree.made(TWELVE, read_form("(a [b (c d) [e g f]] (h [i j k] l))"))
        for names, text in [("", "()"), ("d", "d"), ("bdh", "((b d) h)"), ("bceg", "[b c (e g)]"),
                            ("efg", "[e g f]"), ("hil", "(h i l)"), ("aijl", "(a ((i j) l))"),
                            ("cdefg", "((c d) [e g f])")]:
            self.assertEqual(str(tree.only(list(names))), text)
        self.assertEqual(tree.only(TWELVE), tree)

    def test_layouts_of_the_cut_table(self):
        for table, tree in small_trees(19, 150):
            for names in subsets(table.columns):
                self.assertTrue(tree.only(names).within(Tree.of(table.only(names))))

    def test_only_raises(self):
        tree = Tree.of(Table.empty("a", "b"))
        check_raises(self, UnknownColumn, {"name": "d"}, tree.only, ["a", "d", "e"])


class PairTest(unittest.TestCase):
    def test_against_the_layouts(self):
        random = Random(20)
        common = 0
        for _ in range(500):
            columns = random.sample(TWELVE[:5], random.randint(0, 5))
            one = Tree.made(columns, random_form(random, columns))
            other = Tree.made(columns, random_form(random, columns))
            self.check_pair(one, other)
            common += self.check_common(one, other)
        self.assertTrue(200 < common < 490)

    def check_common(self, one, other):
        both = [order for order in one.layouts() if order in list(other.layouts())]
        if not both:
            check_raises(self, NoCommon, {}, lambda: one & other)
            return False
        self.assertEqual(list((one & other).layouts()), both)
        self.assertTrue(is_normal((one & other).form, list(one.columns)))
        self.assertEqual((one & other).columns, one.columns)
        return True

    def check_pair(self, one, other):
        layouts = [list(one.layouts()), list(other.layouts())]
        sure = [names for names in one.sure_sets() if names in other.sure_sets()]
        self.assertEqual((one | other).sure_sets(), sure)
        self.assertTrue(is_normal((one | other).form, list(one.columns)))
        self.assertIs(one.within(other), all(order in layouts[1] for order in layouts[0]))
        self.assertIs(other.within(one), all(order in layouts[0] for order in layouts[1]))
        self.assertTrue(one.within(one | other) and other.within(one | other))

    def test_operands_stay(self):
        one = Tree.made(["a", "b", "c", "d"], read_form("([a b c] d)"))
        other = Tree.made(["a", "b", "c", "d"], read_form("(a b (c d))"))
        self.assertEqual([str(one & other), str(one | other), one.within(other)], [
            "[a b c d]", "(a b c d)", False])
        self.assertEqual([str(one), str(other)], ["([a b c] d)", "(a b (c d))"])
        self.assertEqual([str(one & one), str(one | one), one.within(one)], ["([a b c] d)", "([a b c] d)", True])

    def test_many_columns(self):
        random = Random(21)
        for _ in range(40):
            tables = [table_with_layout(random, TWELVE, 8) for _ in range(2)]
            tables[1] = tables[1].reordered(tables[0].columns)
            one, other = [Tree.of(table) for table in tables]
            try:
                expected = Tree.of(tables[0] | tables[1])
            except NoLayout:
                check_raises(self, NoCommon, {}, lambda: one & other)
            else:
                self.assertEqual(one & other, expected)
            self.assertEqual((one | other).sure_sets(), [s for s in one.sure_sets() if other.is_sure(s)])

    def test_other_columns(self):
        one = Tree.of(Table.empty("a", "b"))
        for columns in [("b", "a"), ("a",), ("a", "b", "c"), ("a", "c"), ()]:
            other = Tree.of(Table.empty(*columns))
            for call in (lambda: one & other, lambda: one | other, lambda: one.within(other)):
                check_raises(self, OtherColumns, {}, call)


class HoldingTest(unittest.TestCase):
    def test_against_the_sets(self):
        random = Random(22)
        for _ in range(300):
            columns = random.sample(TWELVE[:5], random.randint(0, 5))
            orders = [random.sample(columns, len(columns)) for _ in range(random.randint(1, 4))]
            tree = Tree.holding(columns, *orders)
            self.assertEqual(tree.columns, tuple(columns))
            self.assertEqual(sorted(tree.sure_sets()), sorted(sure_sets_of(orders, columns)))
            self.assertTrue(all(order in tree for order in orders))
            self.assertTrue(is_normal(tree.form, columns))

    def test_one_order(self):
        self.assertEqual(str(Tree.holding(["a", "b", "c"], ("b", "a", "c"))), "[b a c]")
        self.assertEqual(str(Tree.holding(TWELVE, TWELVE, TWELVE[::-1])), "[a b c d e f g h i j k l]")
        self.assertEqual(str(Tree.holding([], [], [])), "()")
        self.assertEqual(str(Tree.holding(list("abcd"), list("abcd"), list("bdac"))), "(a b c d)")

    def test_errors_in_their_order(self):
        check_raises(self, BadTable, {"part": "columns", "index": 0}, Tree.holding, TWELVE + ["A"])
        check_raises(self, BadTable, {"part": "column", "index": 1}, Tree.holding, ["a", "a"], ["x"])
        check_raises(self, BadNumber, {"number": 0}, Tree.holding, ["a", "b"])
        for order, index in WRONG_ORDERS:
            check_raises(self, BadOrder, {"index": index}, Tree.holding, list("abcd"), list("dcba"), order, ["x"])

    def test_arguments_stay(self):
        columns, orders = ["a", "b", "c"], [["b", "a", "c"], ["a", "b", "c"]]
        tree = Tree.holding(columns, *orders)
        self.assertEqual((columns, orders), (["a", "b", "c"], [["b", "a", "c"], ["a", "b", "c"]]))
        columns.append("d")
        orders[0].clear()
        self.assertEqual((tree.columns, str(tree)), (("a", "b", "c"), "((a b) c)"))


class AnyTableTest(unittest.TestCase):
    def test_largest_tables(self):
        random = Random(23)
        for _ in range(20):
            table = random_table(random, TWELVE, 48)
            try:
                tree = Tree.of(table)
            except NoLayout as error:
                Tree.of(table.without(*range(error.number, len(table))))
            else:
                self.assertTrue(all(tree.is_sure(row) for row in table))

    def test_rows_of_two(self):
        for rows in product(subsets("abc"), repeat=3):
            table = Table(["a", "b", "c"], rows)
            pairs = {tuple(row) for row in rows if len(row) == 2}
            if len(pairs) == 3:
                check_raises(self, NoLayout, {"number": 2}, Tree.of, table)
            else:
                self.assertEqual(Tree.of(table).count(), {0: 6, 1: 4, 2: 2}[len(pairs)])


if __name__ == "__main__":
    unittest.main()
