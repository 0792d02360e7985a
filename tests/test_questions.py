import unittest
from itertools import permutations
from random import Random
from time import perf_counter

from helpers import TWELVE, check_raises, kept_of, pairs_of_order, small_tables_with_pairs, table_of_form
from unbrokenrows.errors import BadQuestion, BadText, UnknownColumn
from unbrokenrows.keeping import Kept
from unbrokenrows.questions import (Answer, AtPlace, Before, Beside, Between, Opposite, Question, read_question)
from unbrokenrows.tables import Table
from unbrokenrows.trees import Tree

KEPT = Kept(Table(["a", "b", "c", "d"], [["a", "b"], ["b", "c"]]), [("c", "a")])
SECONDS = 5


def true_in(question, order):
    """Whether a question holds, by the words of the point, from its text."""
    words = str(question).split(" ")
    if words[0] == "not":
        return not true_in(read_question(" ".join(words[1:])), order)
    if words[0] == "place":
        return order[int(words[2])] == words[1] if int(words[2]) < len(order) else False
    places = [order.index(name) for name in words[1:]]
    if words[0] == "before":
        return places[0] < places[1]
    if words[0] == "beside":
        return places[1] in (places[0] - 1, places[0] + 1)
    return places[1] in range(min(places[0], places[2]) + 1, max(places[0], places[2]))


def every_question(columns):
    plain = [Before(a, b) for a, b in permutations(columns, 2)]
    plain += [Beside(a, b) for a, b in permutations(columns, 2)]
    plain += [Between(a, b, c) for a, b, c in permutations(columns, 3)]
    plain += [AtPlace(name, place) for name in columns for place in range(12)]
    return plain + [Opposite(question) for question in plain]


class MakeTest(unittest.TestCase):
    def test_classes(self):
        made = [Before("a", "b"), Between("a", "b", "c"), Beside("a", "b"), AtPlace("a", 0), Opposite(Before("a", "b"))]
        for question in made:
            self.assertIsInstance(question, Question)
            for name in ("holds", "__call__", "__invert__", "__str__", "__eq__"):
                self.assertIn(name, vars(type(question)))
                self.assertIn(name, vars(Question))
        self.assertEqual([type(question).__bases__ for question in made], [(Question,)] * 5)

    def test_names_and_texts(self):
        for question, names, text in [
                (Before("b", "a"), ("b", "a"), "before b a"), (Between("c", "a", "b"), ("c", "a", "b"), "between c a b"),
                (Beside("abcdefgh", "z"), ("abcdefgh", "z"), "beside abcdefgh z"),
                (AtPlace("a", 0), ("a",), "place a 0"), (AtPlace("not", 11), ("not",), "place not 11"),
                (Opposite(Between("c", "a", "b")), ("c", "a", "b"), "not between c a b"),
                (Opposite(AtPlace("a", 7)), ("a",), "not place a 7")]:
            self.assertEqual((question.names, str(question)), (names, text))

    def test_bad_questions(self):
        for names, index in [(("", "b"), 0), (("a", "a"), 1), (("A", "a"), 0), (("a", ""), 1), (("a", "abcdefghi"), 1),
                             (("a b", "c"), 0), (("", ""), 0), (("a", "b1"), 1), (("-", "-"), 0)]:
            for kind in (Before, Beside):
                check_raises(self, BadQuestion, {"index": index}, kind, *names)
        for names, index in [(("", "b", "c"), 0), (("a", "a", "b"), 1), (("a", "b", "a"), 2), (("a", "b", "b"), 2),
                             (("a", "", "a"), 1), (("a", "b", "C"), 2), (("a", "a", "a"), 1)]:
            check_raises(self, BadQuestion, {"index": index}, Between, *names)
        for name, place, index in [("", 0, 0), ("", -1, 0), ("a", -1, 1), ("a", 12, 1), ("a", 10 ** 9, 1),
                                   ("a", -10 ** 9, 1), ("A", 12, 0)]:
            check_raises(self, BadQuestion, {"index": index}, AtPlace, name, place)

    def test_opposites(self):
        for question in [Before("a", "b"), Between("a", "b", "c"), Beside("a", "b"), AtPlace("a", 3)]:
            opposite = ~question
            self.assertIs(type(opposite), Opposite)
            self.assertEqual(str(opposite), "not " + str(question))
            self.assertEqual(opposite.names, question.names)
            self.assertIs(~opposite, question)
            self.assertTrue(~~question == question)
            self.assertFalse(opposite == question)

    def test_equality(self):
        questions = every_question(["a", "b", "c"])
        for one in questions[::5]:
            for other in questions:
                self.assertIs(one == other, str(one) == str(other))
        self.assertTrue(Before("a", "b") == read_question("before a b"))
        self.assertFalse(Beside("a", "b") == Beside("b", "a"))
        self.assertTrue(Opposite(Beside("a", "b")) == ~Beside("a", "b"))


class HoldsTest(unittest.TestCase):
    def test_every_order(self):
        columns = ["a", "b", "c", "d"]
        for question in every_question(columns):
            for order in permutations(columns):
                self.assertIs(question.holds(list(order)), true_in(question, order))
                self.assertIs(question.holds(order), true_in(question, order))

    def test_lists_with_other_entries(self):
        self.assertIs(Before("b", "a").holds(["x", "b", "UP", "a", ""]), True)
        self.assertIs(Beside("b", "a").holds(["x", "b", "UP", "a"]), False)
        self.assertIs(AtPlace("a", 12 - 1).holds(["a"]), False)
        self.assertIs(AtPlace("a", 0).holds(["a"]), True)

    def test_unknown_column(self):
        for question, order, name in [
                (Before("a", "b"), ["b"], "a"), (Before("a", "b"), ["a"], "b"), (Before("a", "b"), [], "a"),
                (Between("c", "a", "b"), ["c", "d"], "a"), (Between("c", "a", "b"), ["c", "a"], "b"),
                (Beside("b", "a"), [], "b"), (AtPlace("z", 0), ["a"], "z"), (~AtPlace("z", 0), ["a"], "z"),
                (~Between("a", "b", "c"), ["c", "a"], "b")]:
            check_raises(self, UnknownColumn, {"name": name}, question.holds, order)


class ReadTest(unittest.TestCase):
    def test_there_and_back(self):
        for question in every_question(["a", "b", "place"]) + every_question(["not", "before", "beside"]):
            read = read_question(str(question))
            self.assertIs(type(read), type(question))
            self.assertEqual((str(read), read.names), (str(question), question.names))
            self.assertTrue(read == question)

    def test_wrong_texts(self):
        for text in ["", " ", "before", "before a", "before a b c", "before  a b", "before a  b", " before a b",
                     "before a b ", "before a a", "before a B", "before a 1", "between a b", "between a b c d",
                     "between a b a", "beside a", "beside a b c", "beside a a", "place a", "place a b", "place 0 a",
                     "place a 12", "place a -1", "place a 01", "place a +1", "place a 1.0", "place a 1 1", "place a",
                     "place a 00", "place a 111", "place a ", "place A 1", "place a 1_1", "not", "not ",
                     "not not before a b", "not before a", "not before a a", "not  before a b", "NOT before a b",
                     "Before a b", "a", "a before b", "at a 1", "question a b", "before a\nb", "before a b\n",
                     "before,a,b", "place a " + "1" * 5000, "not place a 12", "opposite before a b", "not place",
                     "before abcdefghi b", "before not before a b", "between a b c not"]:
            check_raises(self, BadText, {"line": 0}, read_question, text)


class AnswerTest(unittest.TestCase):
    def check_answer(self, question, kept, orders):
        answer = question(kept)
        self.assertIsInstance(answer, Answer)
        yes = [order for order in orders if true_in(question, order)]
        no = [order for order in orders if not true_in(question, order)]
        self.assertEqual(answer.word, "open" if yes and no else "always" if yes else "never")
        for found, expected in ((answer.yes, yes), (answer.no, no)):
            if expected:
                self.assertIsInstance(found, list)
                self.assertIn(found, expected)
            else:
                self.assertIsNone(found)
        return answer.word

    def test_example(self):
        answer = Between("a", "b", "d")(KEPT)
        self.assertEqual([answer.word, answer.yes, answer.no, read_question("not place c 0")(KEPT).word,
                          read_question("between a c d")(KEPT).word],
                         ["open", ["d", "c", "b", "a"], ["c", "b", "a", "d"], "open", "open"])

    def test_small_tables(self):
        seen = {}
        for table, pairs in small_tables_with_pairs(90, 300):
            orders = kept_of(table, pairs)
            if orders:
                kept = Kept(table, pairs)
                for question in every_question(table.columns):
                    word = self.check_answer(question, kept, orders)
                    seen[type(question), word] = seen.get((type(question), word), 0) + 1
        self.assertEqual(len(seen), 15)
        self.assertGreater(min(seen.values()), 50)

    def test_firm_pieces_inside_each_other(self):
        random = Random(91)
        for _ in range(25):
            table = table_of_form(random, 6)
            kept = Kept(table, pairs_of_order(random, Tree.of(table).first(), random.randint(0, 2)))
            orders = kept_of(table, kept.pairs)
            questions = every_question(table.columns)
            for question in random.sample(questions, min(len(questions), 60)):
                self.check_answer(question, kept, orders)

    def test_unknown_column(self):
        for question, name in [(Before("x", "y"), "x"), (Before("a", "y"), "y"), (Between("a", "x", "y"), "x"),
                               (Between("a", "b", "y"), "y"), (Beside("x", "a"), "x"), (AtPlace("x", 0), "x"),
                               (AtPlace("x", 11), "x"), (~Beside("a", "x"), "x"), (~AtPlace("x", 5), "x")]:
            check_raises(self, UnknownColumn, {"name": name}, question, KEPT)

    def test_answers_are_new(self):
        for question in (Before("a", "d"), Beside("a", "d"), ~AtPlace("c", 0)):
            one = question(KEPT)
            before = (list(one.yes), list(one.no))
            one.yes.clear()
            one.no.clear()
            other = question(KEPT)
            self.assertEqual((other.yes, other.no), before)

    def test_twelve_columns(self):
        begun = perf_counter()
        for pairs in ([], ["ba"], ["ba", "dc", "fe"], [("a", name) for name in TWELVE[1:]]):
            kept = Kept(Table.empty(*TWELVE), pairs)
            for question in [Before("a", "c"), Between("a", "g", "l"), Beside("b", "a"), Beside("k", "l"),
                             AtPlace("a", 0), AtPlace("l", 11), AtPlace("b", 5)]:
                answer, other = question(kept), (~question)(kept)
                self.assertEqual((answer.yes, answer.no), (other.no, other.yes))
                for order, holds in ((answer.yes, True), (answer.no, False)):
                    self.assertTrue(order is None or (order in kept and question.holds(order) is holds))
                self.assertEqual(answer.word == "open", answer.yes is not None and answer.no is not None)
        self.assertEqual([AtPlace("a", 0)(kept).word, AtPlace("b", 0)(kept).word], ["always", "never"])
        self.assertLess(perf_counter() - begun, SECONDS)


if __name__ == "__main__":
    unittest.main()
