import unittest
from random import Random
from time import perf_counter

from deskmodel import (ASKED, CHANGES, FACTS, QUESTIONS, Wrong, answer_of, check_model, model_after, random_line,
                       spoiled, told_of)
from helpers import TWELVE, check_new_lists, check_raises
from unbrokenrows.desks import Desk
from unbrokenrows.errors import BadTable, BadText, Clash, Hindered, NoLayout, NoWorld, RowsError, RunStopped, TooMany
from unbrokenrows.keeping import Kept
from unbrokenrows.tables import Table
from unbrokenrows.worlds import Verdict, verdict

SECONDS = 5
# Five columns have 48 layouts in which a and b are neighbours.
UNSURE = ["span 0 5 a b", "window c 1 5"]
EVERY = ["row a b c", "near d e", "end f", "first f", "before a b", "over b c", "span 2 5 a b", "span 0 - d",
         "window a -3 10", "window e 0 0"]


def desk_with(columns, *facts, strict=False):
    desk = Desk(*columns, strict=strict)
    for fact in facts:
        desk.do(fact)
    return desk


def fill(random, desk, many, kinds=(FACTS,)):
    """Random lines until the desk has so many facts."""
    while len(desk.facts) < many:
        try:
            desk.do(random_line(random, desk.columns, desk.facts, kinds))
        except RowsError:
            pass
    return desk


class MakingTest(unittest.TestCase):
    def test_columns(self):
        for names in ([], ["a"], ["row", "ask"], TWELVE):
            desk = Desk(*names)
            self.assertEqual((desk.columns, desk.facts, desk.strict), (tuple(names), (), False))
        self.assertEqual(Desk.MOST_FACTS, 24)
        self.assertEqual(Desk("a").MOST_FACTS, 24)

    def test_wrong_columns(self):
        for strict in (False, True):
            for names, part, index in [(TWELVE + ["m"], "columns", 0), (["A"] * 13, "columns", 0), (["a", "a"], "column", 1),
                                       ([""], "column", 0), (["a", "b", "abcdefghi"], "column", 2),
                                       (["a", "b c", "a"], "column", 1)]:
                with self.assertRaises(BadTable) as caught:
                    Desk(*names, strict=strict)
                self.assertEqual(vars(caught.exception), {"part": part, "index": index})

    def test_equal(self):
        one = desk_with("ab", "row a", "before a b")
        self.assertTrue(one == desk_with("ab", "row a", "before a b", strict=True))
        self.assertFalse(one != one.twin())
        for other in (desk_with("ba", "row a", "before a b"), desk_with("ab", "before a b", "row a"), Desk("a", "b"),
                      desk_with("ab", "row a", "over b a"), desk_with("abc", "row a", "before a b")):
            self.assertFalse(one == other)
        self.assertTrue(Desk() == Desk())

    def test_strict_by_its_name(self):
        desk = Desk("a", "b", strict=True)
        self.assertIs(desk.strict, True)
        desk.do("before a b")
        check_raises(self, Hindered, {"word": "clash"}, desk.do, "before b a")
        self.assertIs(Desk("a", strict=False).strict, False)


class FactsTest(unittest.TestCase):
    def test_every_fact(self):
        desk = desk_with("abcdef", *EVERY)
        self.assertEqual(desk.facts, tuple(EVERY))
        table = desk.told_table()
        self.assertIsInstance(table, Table)
        self.assertEqual(table.columns, tuple("abcdef"))
        self.assertEqual(table.rows, (tuple("abc"), ("d", "e"), tuple("abcde"), tuple("abcde"), ("a", "b"), ("d",)))
        self.assertEqual(desk.told_pairs(), [("f", "a"), ("f", "b"), ("f", "c"), ("f", "d"), ("f", "e"), ("a", "b"),
                                             ("c", "b")])
        self.assertEqual(desk.told_spans(), [(4, 2, 5), (5, 0, None)])
        self.assertEqual(desk.told_windows(), [("a", -3, 10), ("e", 0, 0)])

    def test_pairs_come_once(self):
        desk = desk_with("abc", "last b", "before c b", "over b a", "first b", "before b a", "last b")
        self.assertEqual(desk.told_pairs(), [("a", "b"), ("c", "b"), ("b", "a"), ("b", "c")])
        desk.do("drop 0")
        self.assertEqual(desk.told_pairs(), [("c", "b"), ("a", "b"), ("b", "a"), ("b", "c")])

    def test_the_columns_of_now_count(self):
        desk = desk_with("ab", "end a", "first b")
        self.assertEqual((desk.told_table().rows, desk.told_pairs()), ((("b",), ("a",)), [("b", "a")]))
        desk.do("column c")
        self.assertEqual((desk.told_table().rows, desk.told_pairs()),
                         ((("b", "c"), ("a", "c")), [("b", "a"), ("b", "c")]))
        self.assertEqual(desk_with("a", "end a", "last a").told_table().rows, ((), ()))

    def test_random_facts(self):
        random = Random(450)
        for _ in range(80):
            columns = random.sample(TWELVE, random.randint(2, 12))
            desk = fill(random, Desk(*columns), random.randint(1, 24 if len(columns) > 4 else 8))
            table, pairs, spans, windows = told_of(list(desk.columns), list(desk.facts))
            self.assertTrue(desk.told_table() == table)
            self.assertEqual((desk.told_pairs(), desk.told_spans(), desk.told_windows()), (pairs, spans, windows))
            self.check_verdict(desk, (table, pairs, spans, windows))
            self.check_kept(desk)

    def check_verdict(self, desk, told):
        try:
            expected = verdict(*told)
        except TooMany as error:
            check_raises(self, TooMany, {"many": error.many}, desk.verdict)
            return
        found = desk.verdict()
        self.assertIsInstance(found, Verdict)
        self.assertEqual(vars(found), vars(expected))

    def check_kept(self, desk):
        forced = [(a, b) for a, _, high in desk.told_windows() for b, low, _ in desk.told_windows() if high < low]
        forced = sorted(forced, key=lambda pair: [desk.columns.index(name) for name in pair])
        pairs = desk.told_pairs() + forced
        try:
            expected = Kept(desk.told_table(), pairs)
        except (NoLayout, Clash) as error:
            with self.assertRaises(type(error)) as caught:
                desk.kept()
            self.assertEqual(vars(caught.exception), vars(error))
            return
        self.assertEqual((desk.kept().pairs, desk.kept().count()), (tuple(pairs), expected.count()))
        self.assertTrue(desk.kept().table == expected.table)

    def test_told_lists_are_new(self):
        desk = desk_with("abcdef", *EVERY)
        for call in (desk.told_pairs, desk.told_spans, desk.told_windows):
            check_new_lists(self, call)
        self.assertEqual(desk.facts, tuple(EVERY))


class ChangesTest(unittest.TestCase):
    def test_columns(self):
        desk = Desk("a", "b")
        self.assertEqual([desk.do("column d"), desk.do("column c"), desk.do("remove b")], [None, None, None])
        self.assertEqual(desk.columns, ("a", "d", "c"))
        self.assertEqual([desk.do(line) for line in ("remove a", "remove d", "remove c")], [None] * 3)
        self.assertEqual(desk.columns, ())

    def test_rename(self):
        desk = desk_with("abcdef", *EVERY)
        self.assertIsNone(desk.do("rename a row"))
        self.assertEqual(desk.columns, ("row", "b", "c", "d", "e", "f"))
        self.assertEqual(desk.facts, ("row row b c", "near d e", "end f", "first f", "before row b", "over b c",
                                      "span 2 5 row b", "span 0 - d", "window row -3 10", "window e 0 0"))
        desk.do("rename row span")
        desk.do("rename f first")
        self.assertEqual(desk.facts[0::3], ("row span b c", "first first", "span 2 5 span b", "window e 0 0"))
        self.assertEqual(desk.facts[4], "before span b")
        desk.do("rename span a")
        desk.do("rename first f")
        self.assertEqual((desk.columns, desk.facts), (tuple("abcdef"), tuple(EVERY)))

    def test_names_that_begin_with_others(self):
        desk = desk_with(["a", "aa", "ba"], "row a aa ba", "near aa a")
        desk.do("rename a b")
        self.assertEqual((desk.columns, desk.facts), (("b", "aa", "ba"), ("row b aa ba", "near aa b")))

    def test_drop(self):
        desk = desk_with("abcdef", *EVERY)
        for number, left in [(9, EVERY[:9]), (0, EVERY[1:9]), (3, EVERY[1:4] + EVERY[5:9])]:
            self.assertIsNone(desk.do(f"drop {number}"))
            self.assertEqual(desk.facts, tuple(left))

    def test_the_same_fact_twice(self):
        desk = desk_with("ab", "row a b", "row a b", "row b a")
        self.assertEqual(desk.facts, ("row a b", "row a b", "row b a"))

    def test_random_lines(self):
        random = Random(451)
        for strict in (False, True):
            for _ in range(12):
                desk = Desk(*random.sample(TWELVE, random.randint(0, 6)), strict=strict)
                for _ in range(60):
                    self.check_line(desk, self.line(random, desk))

    def line(self, random, desk):
        line = random_line(random, desk.columns, desk.facts, (FACTS, FACTS, CHANGES, ASKED, QUESTIONS))
        return spoiled(random, line) if random.random() < 0.1 else line

    def check_line(self, desk, line):
        """The desk does what the model does, or refuses the line for the same reason."""
        columns, facts, strict = list(desk.columns), list(desk.facts), desk.strict
        try:
            expected = self.expected(columns, facts, strict, line)
        except Wrong as wrong:
            with self.assertRaises(RowsError) as caught:
                desk.do(line)
            error = caught.exception
            self.assertEqual((type(error).__name__, *vars(error).values()), wrong.args, line)
            self.assertEqual((desk.columns, desk.facts, desk.strict), (tuple(columns), tuple(facts), strict))
            return
        self.assertEqual(desk.do(line), expected[0], line)
        self.assertEqual((desk.columns, desk.facts), (tuple(expected[1]), tuple(expected[2])))

    def expected(self, columns, facts, strict, line):
        check_model(columns, facts, line)
        try:
            if line.startswith("ask "):
                return answer_of(columns, facts, line), columns, facts
            columns, facts = model_after(columns, facts, line)
            word = verdict(*told_of(columns, facts)).word if strict else "world"
        except RowsError as error:
            raise Wrong(type(error).__name__, *vars(error).values()) from None
        if word != "world":
            raise Wrong("Hindered", word)
        return None, columns, facts


class QuestionsTest(unittest.TestCase):
    def test_answers(self):
        desk = desk_with("abcd", "near a b", "near b c", "before c a", "span 2 5 a b", "span 1 - b c")
        told = [("verdict", "world"), ("layout", ["c", "b", "a", "d"]), ("years", [0, 1, 3, 3]), ("count", 2), ("ring", 2),
                ("places c", [0, 1]), ("far a d", (0, 2)), ("share a d", "1/2"), ("mean b", "3/2"), ("sure d c b", False),
                ("sure c a b", True), ("time b a", (2, 5)), ("time a b c", (3, None)), ("time d", (0, 0)),
                ("before c a", "always"), ("before a d", "open"), ("not before c a", "never"), ("between a b d", "open"),
                ("between a b c", "always"), ("beside b d", "never"), ("place c 0", "open"), ("place c 11", "never"),
                ("not place b 0", "always")]
        for question, answer in told:
            self.assertEqual(desk.do(f"ask {question}"), answer, question)
        self.assertIs(desk.do("ask sure a"), True)

    def test_windows_are_bound(self):
        desk = desk_with("abc", "window a 10 20", "window b 1 5")
        self.assertEqual([desk.do(f"ask {word}") for word in ("count", "before b a", "layout", "years", "share b a")],
                         [3, "always", ["b", "a", "c"], [1, 10, 10], "1"])

    def test_without_layouts(self):
        desk = desk_with("abc", "near a b", "near b c", "near c a")
        self.assertEqual([desk.do(f"ask {word}") for word in ("verdict", "count", "ring")], ["pattern", 0, 2])
        check_raises(self, NoWorld, {"word": "pattern"}, desk.do, "ask layout")
        desk = desk_with("abcd", "near a b", "near a c", "near a d")
        self.assertEqual([desk.do(f"ask {word}") for word in ("verdict", "count", "ring")], ["pattern", 0, 0])

    def test_each_word_without_a_world(self):
        years = ["span 5 - a", "span 0 1 a b"]
        each = ["near a b", "span 9 9 a b", "window a 0 1", "window b 0 1"]
        for facts, word, count in [(years, "years", 12), (each, "each", 12), (["first a", "first b"], "clash", 0)]:
            desk = desk_with("abcd", *facts)
            self.assertEqual([desk.do("ask verdict"), desk.do("ask count")], [word, count])
            for question in ("layout", "years", "places a", "far a b", "share a b", "mean a", "sure a", "time a c",
                             "before a b", "not place a 1"):
                check_raises(self, NoWorld, {"word": word}, desk.do, f"ask {question}")

    def test_too_many(self):
        desk = desk_with("abcde", *UNSURE)
        for question in ("verdict", "layout", "years", "places a", "far a b", "share a b", "mean a", "sure a", "time a c",
                         "before a b", "not place a 1"):
            check_raises(self, TooMany, {"many": 48}, desk.do, f"ask {question}")
        self.assertEqual([desk.do("ask count"), desk.do("ask ring")], [48, 12])
        check_raises(self, TooMany, {"many": 48}, desk.verdict)
        self.assertEqual(desk.kept().count(), 48)

    def test_answers_are_new(self):
        desk = desk_with("abcd", "near a b")
        for question in ("ask layout", "ask years", "ask places a"):
            check_new_lists(self, lambda: desk.do(question))


class RunTest(unittest.TestCase):
    def test_answers_in_order(self):
        desk = Desk("a", "b")
        self.assertEqual(desk.run("ask count\ncolumn c\nask count\nbefore a b\nask count\nask before b a\nask sure a"),
                         [2, 6, 3, "never", True])
        self.assertEqual((desk.columns, desk.facts), (("a", "b", "c"), ("before a b",)))
        self.assertEqual(desk.run("before b c"), [])
        check_new_lists(self, lambda: desk.run("ask count\nask layout"))

    def test_empty_text(self):
        desk = desk_with("ab", "row a")
        self.assertEqual(desk.run(""), [])
        self.assertEqual((desk.undo(), desk.undo()), (True, False))

    def test_empty_lines(self):
        for text, number in [("\n", 0), ("row a\n", 1), ("\nrow a", 0), ("row a\n\nrow b", 1), (" ", 0),
                             ("ask count\nrow a b\n", 2)]:
            desk = Desk("a", "b")
            check_raises(self, RunStopped, {"number": number}, desk.run, text)
            self.assertEqual((desk.columns, desk.facts, desk.undo()), (("a", "b"), (), False))

    def test_everything_is_taken_back(self):
        desk = desk_with("abc", "row a b")
        for last in ("row x", "drop 9", "rows", "window a 2 1", "ask places x", "column z", "remove d", "ask mean"):
            text = f"column z\nrename c d\nbefore a d\nask layout\ndrop 0\n{last}\nrow a"
            check_raises(self, RunStopped, {"number": 5}, desk.run, text)
            self.assertEqual((desk.columns, desk.facts), (("a", "b", "c"), ("row a b",)))
        check_raises(self, RunStopped, {"number": 2}, desk.run, "before a b\nbefore b a\nask layout")
        self.assertEqual(desk.facts, ("row a b",))
        self.assertTrue(desk.undo() and not desk.undo())

    def test_strict_desks_check_every_line(self):
        text = "before a b\nbefore b a\ndrop 0"
        desk = Desk("a", "b", strict=True)
        check_raises(self, RunStopped, {"number": 1}, desk.run, text)
        self.assertEqual((desk.facts, desk.strict, desk.undo()), ((), True, False))
        loose = Desk("a", "b")
        self.assertEqual((loose.run(text), loose.facts), ([], ("before b a",)))

    def test_errors_inside_a_run_do_not_forget(self):
        desk = desk_with("abc", "row a b", "row b c")
        desk.undo()
        check_raises(self, RunStopped, {"number": 1}, desk.run, "row a\nrow")
        self.assertEqual((desk.redo(), desk.facts), (True, ("row a b", "row b c")))


class DeedsTest(unittest.TestCase):
    def test_undo_and_redo(self):
        desk = Desk("a", "b")
        self.assertEqual((desk.undo(), desk.redo()), (False, False))
        desk.do("row a")
        desk.run("row b\ncolumn c\nask count")
        desk.do("rename a z")
        self.assertEqual((desk.undo(), desk.columns, desk.facts), (True, ("a", "b", "c"), ("row a", "row b")))
        self.assertEqual((desk.undo(), desk.columns, desk.facts), (True, ("a", "b"), ("row a",)))
        self.assertEqual((desk.redo(), desk.columns, desk.facts), (True, ("a", "b", "c"), ("row a", "row b")))
        self.assertEqual((desk.redo(), desk.columns, desk.facts), (True, ("z", "b", "c"), ("row z", "row b")))
        self.assertIs(desk.redo(), False)
        self.assertEqual([desk.undo() for _ in range(4)], [True, True, True, False])
        self.assertEqual((desk.columns, desk.facts), (("a", "b"), ()))

    def test_a_new_deed_forgets(self):
        for deed in (lambda desk: desk.do("row b"), lambda desk: desk.run("row b"), lambda desk: desk.do("column z"),
                     lambda desk: desk.run("ask count\ncolumn z\nremove z")):
            desk = desk_with("ab", "row a", "near a b")
            self.assertTrue(desk.undo())
            deed(desk)
            self.assertIs(desk.redo(), False)
            self.assertEqual([desk.undo(), desk.facts, desk.undo(), desk.facts, desk.undo()],
                             [True, ("row a",), True, (), False])

    def test_questions_and_errors_do_not_matter(self):
        desk = desk_with("ab", "row a", "near a b")
        desk.undo()
        desk.do("ask count")
        self.assertEqual(desk.run("ask count\nask layout"), [2, ["a", "b"]])
        self.assertEqual(desk.run(""), [])
        for line in ("row x", "", "ask mean x", "drop 7"):
            self.assertRaises(RowsError, desk.do, line)
            self.assertRaises(RunStopped, desk.run, f"row a\n{line}")
        self.assertEqual([desk.redo(), desk.facts, desk.redo()], [True, ("row a", "near a b"), False])
        self.assertEqual([desk.undo(), desk.undo(), desk.undo()], [True, True, False])

    def test_a_run_is_one_deed_even_if_nothing_is_left_of_it(self):
        desk = Desk("a")
        desk.run("row a\ndrop 0")
        self.assertEqual([desk.facts, desk.undo(), desk.undo(), desk.redo()], [(), True, False, True])

    def test_hundreds_of_deeds(self):
        random = Random(460)
        for strict in (False, True):
            desk = Desk("a", "b", "c", strict=strict)
            states = [(desk.columns, desk.facts)]
            begun = perf_counter()
            while len(states) < 400:
                try:
                    desk.do(random_line(random, desk.columns, desk.facts, (FACTS, CHANGES)))
                    states.append((desk.columns, desk.facts))
                except RowsError:
                    pass
            for state in states[-2::-1]:
                self.assertIs(desk.undo(), True)
                self.assertEqual((desk.columns, desk.facts), state)
            self.assertIs(desk.undo(), False)
            for state in states[1:]:
                self.assertIs(desk.redo(), True)
                self.assertEqual((desk.columns, desk.facts), state)
            self.assertIs(desk.redo(), False)
            self.assertLess(perf_counter() - begun, 2 * SECONDS)

    def test_random_walks(self):
        random = Random(461)
        for _ in range(30):
            desk, done, undone = Desk("a", "b", "c"), [], []
            for _ in range(60):
                self.step(random, desk, done, undone)

    def step(self, random, desk, done, undone):
        now = (desk.columns, desk.facts)
        act = random.choice(["undo", "redo", "do", "do", "run", "ask"])
        if act == "undo":
            self.assertIs(desk.undo(), bool(done))
            if done:
                undone.append(now)
                self.assertEqual((desk.columns, desk.facts), done.pop())
        elif act == "redo":
            self.assertIs(desk.redo(), bool(undone))
            if undone:
                done.append(now)
                self.assertEqual((desk.columns, desk.facts), undone.pop())
        elif act == "ask":
            desk.run("ask count\nask ring")
        else:
            lines = [random_line(random, desk.columns, desk.facts, (FACTS, CHANGES)) for _ in range(2)]
            try:
                desk.do(lines[0]) if act == "do" else desk.run("\n".join(lines))
                done.append(now)
                undone.clear()
            except RowsError:
                self.assertEqual((desk.columns, desk.facts), now)


class StrictTest(unittest.TestCase):
    def test_setting_it(self):
        for set_it in (lambda desk, value: setattr(desk, "strict", value), lambda desk, value: desk.change(value)):
            desk = desk_with("ab", "before a b")
            set_it(desk, True)
            self.assertEqual((desk.strict, desk.facts, desk.undo(), desk.redo()), (True, ("before a b",), False, False))
            check_raises(self, Hindered, {"word": "clash"}, desk.do, "before b a")
            set_it(desk, False)
            self.assertIs(desk.strict, False)
            desk.do("before b a")
            self.assertEqual(desk.facts, ("before a b", "before b a"))
        self.assertIsNone(Desk("a").change(True))
        self.assertIsNone(Desk("a").change(False))

    def test_hindered(self):
        for facts, word in [(["before a b", "before b a"], "clash"), (["near a b", "near b c", "near a c"], "pattern"),
                            (["span 5 - a"], "years"),
                            (["near a b", "span 9 9 a b c", "window a 0 1", "window b 0 1", "window c 0 1"], "each")]:
            desk = desk_with("abc", *facts)
            for set_it in (lambda: desk.change(True), lambda: setattr(desk, "strict", True)):
                check_raises(self, Hindered, {"word": word}, set_it)
                self.assertEqual((desk.strict, desk.facts), (False, tuple(facts)))
            self.assertEqual([desk.undo() for _ in facts], [True] * len(facts))
            strict = Desk("a", "b", "c", strict=True)
            for fact in facts[:-1]:
                strict.do(fact)
            if word != "each":
                check_raises(self, Hindered, {"word": word}, strict.do, facts[-1])
                self.assertEqual(strict.facts, tuple(facts[:-1]))

    def test_too_many(self):
        desk = desk_with("abcde", *UNSURE)
        check_raises(self, TooMany, {"many": 48}, desk.change, True)
        check_raises(self, TooMany, {"many": 48}, setattr, desk, "strict", True)
        self.assertEqual((desk.strict, desk.undo(), desk.redo()), (False, True, True))
        strict = desk_with("abcde", UNSURE[0], strict=True)
        check_raises(self, TooMany, {"many": 48}, strict.do, UNSURE[1])
        check_raises(self, RunStopped, {"number": 0}, strict.run, UNSURE[1])
        self.assertEqual(strict.facts, (UNSURE[0],))
        self.assertEqual((strict.undo(), strict.undo()), (True, False))

    def test_every_line_is_checked(self):
        desk = desk_with("abcd", "near c d", "span 1 5 a b", "window c 1 5", strict=True)
        # With the column e there are 24 layouts, and without the row of c and d there are 48.
        self.assertEqual(desk.run("ask count\ncolumn e\nask count\nask verdict"), [8, 24, "world"])
        check_raises(self, TooMany, {"many": 48}, desk.do, "drop 0")
        self.assertEqual(desk.facts, ("near c d", "span 1 5 a b", "window c 1 5"))
        self.assertEqual([desk.do("rename a z"), desk.do("remove e"), desk.do("drop 0")], [None, None, None])
        self.assertEqual((desk.columns, desk.facts), (tuple("zbcd"), ("span 1 5 z b", "window c 1 5")))

    def test_a_further_column_can_hinder(self):
        desk = desk_with("ab", "near a b", "end a", "end b", strict=True)
        check_raises(self, Hindered, {"word": "pattern"}, desk.do, "column c")
        desk.strict = False
        desk.do("column c")
        self.assertEqual((desk.columns, desk.verdict().word), (("a", "b", "c"), "pattern"))
        check_raises(self, Hindered, {"word": "pattern"}, desk.change, True)

    def test_the_same_value_does_nothing(self):
        desk = desk_with("ab", "row a", "row b")
        desk.undo()
        desk.strict = False
        desk.change(False)
        self.assertEqual((desk.redo(), desk.undo()), (True, True))
        desk.strict = True
        desk.do("row b")
        desk.undo()
        desk.strict = True
        desk.change(True)
        self.assertEqual((desk.redo(), desk.undo(), desk.undo()), (True, True, False))

    def test_setting_it_to_false_keeps_the_deeds(self):
        desk = desk_with("ab", "row a", strict=True)
        desk.do("row b")
        desk.undo()
        desk.strict = False
        self.assertEqual([desk.redo(), desk.undo(), desk.undo(), desk.undo()], [True, True, True, False])

    def test_setting_it_to_true_forgets_what_was_taken_back(self):
        desk = desk_with("ab", "row a", "row b")
        desk.undo()
        desk.strict = True
        self.assertEqual((desk.undo(), desk.redo(), desk.facts), (False, False, ("row a",)))


class TextTest(unittest.TestCase):
    def test_text(self):
        self.assertEqual(Desk().text(), "columns")
        self.assertEqual(Desk("a", "bc").text(), "columns a bc")
        self.assertEqual(desk_with("ab", "row b a", "span 0 - a", strict=True).text(),
                         "columns a b\nrow b a\nspan 0 - a")

    def test_there_and_back(self):
        random = Random(470)
        for _ in range(60):
            desk = Desk(*random.sample(TWELVE, random.randint(1, 12)))
            fill(random, desk, random.randint(0, 8), (FACTS, FACTS, CHANGES))
            other = Desk.read(desk.text())
            self.assertTrue(other == desk)
            self.assertEqual((other.columns, other.facts, other.text()), (desk.columns, desk.facts, desk.text()))
            self.assertEqual((other.strict, other.undo(), other.redo()), (False, False, False))

    def test_a_desk_without_a_world_can_be_read(self):
        text = "columns a b\nbefore a b\nbefore b a"
        desk = Desk.read(text)
        self.assertEqual((desk.text(), desk.verdict().word, desk.strict), (text, "clash", False))

    def test_wrong_columns_line(self):
        for line in ("", " ", "column a", "columns ", "columns  a", "columns a ", "columns a a", "columns A", " columns",
                     "columns a abcdefghi", "row a", "columns a b c d e f g h i j k l m", "Columns"):
            check_raises(self, BadText, {"line": 0}, Desk.read, line)
            check_raises(self, BadText, {"line": 0}, Desk.read, f"{line}\nrow a")
        self.assertEqual(len(Desk.read("columns a b c d e f g h i j k l").columns), 12)

    def test_wrong_lines(self):
        for line in ("", " ", "row", "row x", "row a a", "column c", "remove b", "rename a c", "drop 0", "ask count",
                     "ask verdict", "before a b ", "span 2 1 a", "window a 3 4", "window b 4 3", "columns a b", "near a",
                     "end x", "not", "row  a", "span 0 1000001 a", "span 01 2 a"):
            text = "columns a b\nwindow a 1 2\nrow a b"
            check_raises(self, BadText, {"line": 3}, Desk.read, f"{text}\n{line}")
            check_raises(self, BadText, {"line": 3}, Desk.read, f"{text}\n{line}\nrow x\n")
        check_raises(self, BadText, {"line": 1}, Desk.read, "columns a b\n")
        check_raises(self, BadText, {"line": 1}, Desk.read, "columns\nrow a")

    def test_twenty_four_facts(self):
        text = "columns a" + "\nrow a" * 24
        self.assertEqual(len(Desk.read(text).facts), 24)
        check_raises(self, BadText, {"line": 25}, Desk.read, text + "\nrow a")
        check_raises(self, BadText, {"line": 25}, Desk.read, text + "\nrow a\nrow x")

    def test_twin(self):
        for strict in (False, True):
            desk = desk_with("ab", "row a", "before a b", strict=strict)
            twin = desk.twin()
            self.assertTrue(twin == desk and twin is not desk)
            self.assertEqual((twin.columns, twin.facts, twin.strict), (desk.columns, desk.facts, strict))
            self.assertEqual((twin.undo(), twin.redo()), (False, False))
            twin.do("column c")
            self.assertEqual((desk.columns, twin.columns), (("a", "b"), ("a", "b", "c")))
            desk.do("row b")
            self.assertEqual((len(desk.facts), len(twin.facts), desk.undo(), desk.undo()), (3, 2, True, True))


class SpeedTest(unittest.TestCase):
    def test_twelve_columns_and_twenty_four_facts(self):
        random = Random(480)
        begun = perf_counter()
        for strict in (False, True):
            desk = Desk(*TWELVE, strict=strict)
            for _ in range(100):
                try:
                    desk.do(random_line(random, desk.columns, desk.facts, (FACTS,)))
                except RowsError:
                    pass
            for kind in (ASKED, QUESTIONS):
                for _ in range(30):
                    try:
                        desk.do(random_line(random, desk.columns, desk.facts, (kind,)))
                    except RowsError:
                        pass
            self.assertTrue(Desk.read(desk.text()) == desk)
        self.assertLess(perf_counter() - begun, 2 * SECONDS)

    def test_twelve_loose_columns(self):
        begun = perf_counter()
        desk = Desk(*TWELVE)
        self.assertEqual(desk.run("ask count\nask ring\nask mean a\nask share a b\nask far a l\nask place c 11"),
                         [479001600, 39916800, "11/2", "1/2", (0, 10), "open"])
        pairs = [f"before {a} {b}" for a, b in zip(TWELVE, TWELVE[2:])] + [f"over {b} {a}" for a, b in zip("aceg", "bdfh")]
        desk.run("\n".join(pairs))
        self.assertEqual(desk.do("ask verdict"), "world")
        self.assertGreater(desk.do("ask count"), 0)
        self.assertLess(perf_counter() - begun, SECONDS)


if __name__ == "__main__":
    unittest.main()
