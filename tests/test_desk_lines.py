"""Point [66]: the checks of a line, each in its turn and against the next ones."""

import unittest
from random import Random

from deskmodel import ASKED, CHANGES, FACTS, QUESTIONS, Wrong, check_model, random_line, spoiled
from helpers import TWELVE, check_raises
from unbrokenrows.desks import Desk
from unbrokenrows.errors import (BadLine, BadNumber, BadText, Hindered, InUse, NotSure, NoWorld, RowsError, SameColumn,
                                 Taken, TooMany, UnknownColumn)

ATTRIBUTES = {"BadLine": "place", "UnknownColumn": "name", "SameColumn": "name", "BadNumber": "number",
              "Taken": "name", "InUse": "number", "TooMany": "many"}


def desk_with(columns, *facts):
    desk = Desk(*columns)
    for fact in facts:
        desk.do(fact)
    return desk


class LinesTest(unittest.TestCase):
    def refuse(self, desk, line, error, **told):
        """The line raises exactly this error, and the desk has not changed."""
        before = (desk.columns, desk.facts, desk.text())
        check_raises(self, error, told, desk.do, line)
        self.assertEqual((desk.columns, desk.facts, desk.text()), before)


class BadLineTest(LinesTest):
    DESK = desk_with("abcd", "row a b")

    def check_places(self, *told):
        for line, place in told:
            self.refuse(self.DESK, line, BadLine, place=place)

    def test_first_words(self):
        self.check_places(("", 0), (" ", 0), (" row a", 0), ("rows a", 0), ("Row a", 0), ("a b", 0), ("verdict", 0),
                          ("not before a b", 0), ("beside a b", 0), ("columns a b", 0), ("-", 0), ("7", 0))

    def test_missing_words(self):
        self.check_places(("row", 1), ("near", 1), ("near a", 2), ("end", 1), ("first", 1), ("last", 1), ("before", 1),
                          ("before a", 2), ("over a", 2), ("span", 1), ("span 1", 2), ("span 1 -", 3), ("span 1 2", 3),
                          ("window", 1), ("window a", 2), ("window a 1", 3), ("column", 1), ("remove", 1),
                          ("rename", 1), ("rename a", 2), ("drop", 1), ("ask", 1), ("ask places", 2), ("ask far", 2),
                          ("ask far a", 3), ("ask share a", 3), ("ask mean", 2), ("ask sure", 2), ("ask time", 2))

    def test_words_too_many(self):
        self.check_places(("near a b c", 3), ("end a b", 2), ("first a b", 2), ("last a a", 2), ("before a b c", 3),
                          ("over a b c d", 3), ("window a 1 2 3", 4), ("column e f", 2), ("remove c d", 2),
                          ("rename a e f", 3), ("drop 0 0", 2), ("ask verdict now", 2), ("ask layout a", 2),
                          ("ask years 1", 2), ("ask count a b", 2), ("ask ring a", 2), ("ask places a b", 3),
                          ("ask far a b c", 4), ("ask share a b c", 4), ("ask mean a b", 3))

    def test_words_that_are_no_names(self):
        self.check_places(("row A", 1), ("row a B c", 2), ("row a b c1", 3), ("row abcdefghi", 1), ("row a b-", 2),
                          ("near 1 a", 1), ("near a 2", 2), ("end -", 1), ("span 1 2 3", 3), ("span 1 2 a 3", 4),
                          ("window 1 2 3", 1), ("column E", 1), ("column abcdefghi", 1), ("remove 0", 1),
                          ("rename a E", 2), ("rename 1 E", 1), ("ask places 0", 2), ("ask sure a b C", 4),
                          ("ask time a 1", 3), ("ask far a 3", 3))

    def test_blanks_too_many(self):
        self.check_places(("row  a", 1), ("row a ", 2), ("row a  b", 2), ("near a b ", 3), ("near  a b", 1),
                          ("ask  verdict", 1), ("ask verdict ", 2), ("ask sure a  b", 3), ("drop 0 ", 2),
                          ("span  1 2 a", 1), ("window a 1  2", 3), ("column ", 1), ("  ", 0))

    def test_numbers(self):
        for number in ("00", "01", "007", "12345678", "10000000", "+1", "1.0", "", "1a", "a", "0x1", "1_0", "--1"):
            for form, at in [("span {} 9 a", 1), ("span 0 {} a", 2), ("window c {} 9", 2), ("window c 0 {}", 3),
                             ("drop {}", 1)]:
                self.check_places((form.format(number), at))
        for number in ("-1", "-0", "-9999999"):
            for form, at in [("span {} 9 a", 1), ("span 0 {} a", 2), ("drop {}", 1)]:
                self.check_places((form.format(number), at))
        for number in ("-0", "-01", "-", "-10000000", "-a"):
            self.check_places((f"window c {number} 9", 2), (f"window c 0 {number}", 3))
        self.check_places(("span - 1 a", 1), ("drop -", 1))

    def test_ask(self):
        self.check_places(("ask a", 1), ("ask Verdict", 1), ("ask row a", 1), ("ask ask verdict", 1), ("ask", 1),
                          ("ask a b c d", 1), ("ask place", 1), ("ask near a b", 1), ("ask 1", 1))

    def test_questions(self):
        for question in ("before", "before a", "before a b c", "before a a", "before a A", "before a  b", "before a b ",
                         "between a b", "between a b a", "between a b c d", "beside a", "beside a a", "beside a 1",
                         "place a", "place a 12", "place a 01", "place a -1", "place a b", "place 0 a", "place a 3 4",
                         "not", "not a", "not before", "not before a a", "not not before a b", "not place a 12",
                         "not  before a b", "not verdict", "not sure a"):
            self.check_places((f"ask {question}", 1))

    def test_the_first_wrong_word_counts(self):
        self.check_places(("near A B", 1), ("near A", 1), ("near a B c", 2), ("span x y", 1), ("span 1 y", 2),
                          ("span 1 2 A B", 3), ("window a x", 2), ("rename A", 1), ("ask far A", 2))

    def test_before_all_other_checks(self):
        full = desk_with(TWELVE, *["row a"] * 24)
        for line, place in [("near x x x", 3), ("near x", 2), ("span 9 1", 3), ("drop 99 99", 2), ("column a a", 2),
                            ("window x 9 1 1", 4), ("remove a a", 2), ("row x x X", 3), ("ask far x", 3),
                            ("ask before x x", 1), ("ask place x 12", 1)]:
            self.refuse(full, line, BadLine, place=place)


class NextChecksTest(LinesTest):
    DESK = desk_with("abcd", "row a b", "window a -3 3", "span 1 - b c")

    def test_unknown_columns(self):
        for line, name in [("row a x", "x"), ("row x a y", "x"), ("near x a", "x"), ("near a x", "x"), ("end x", "x"),
                           ("first x", "x"), ("last x", "x"), ("before x y", "x"), ("over a y", "y"),
                           ("span 0 1 x", "x"), ("window x 1 2", "x"), ("remove x", "x"), ("rename x e", "x"),
                           ("rename x x", "x"), ("ask places x", "x"), ("ask far a x", "x"), ("ask share x a", "x"),
                           ("ask mean x", "x"), ("ask sure a x y", "x"), ("ask time b x", "x"),
                           ("ask before a x", "x"), ("ask between x a y", "x"), ("ask not beside a y", "y"),
                           ("ask place x 3", "x"), ("ask not place x 11", "x"), ("row a a x", "x"), ("near x x", "x"),
                           ("span 9 1 x", "x"), ("window x 2 1", "x"), ("rename x a", "x")]:
            self.refuse(self.DESK, line, UnknownColumn, name=name)

    def test_same_column(self):
        for line, name in [("row a a", "a"), ("row a b b a", "b"), ("near b b", "b"), ("before a a", "a"),
                           ("over c c", "c"), ("span 9 1 a b a", "a"), ("ask far a a", "a"), ("ask share d d", "d"),
                           ("ask sure a b c b a", "b"), ("ask time a a", "a"), ("span 1000001 1 d d", "d")]:
            self.refuse(self.DESK, line, SameColumn, name=name)

    def test_bad_numbers(self):
        for line, number in [("span 1000001 - a", 1000001), ("span 9999999 9999999 a", 9999999), ("span 5 4 a", 4),
                             ("span 0 1000001 a", 1000001), ("span 1000001 5 a", 1000001), ("window c 1000001 0", 1000001),
                             ("window c -1000001 0", -1000001), ("window c 0 1000001", 1000001), ("window c 3 2", 2),
                             ("window c -2 -3", -3), ("window c -9999999 -9999999", -9999999), ("drop 3", 3),
                             ("drop 9999999", 9999999), ("window a 3 2", 2), ("window a -1000001 2", -1000001)]:
            self.refuse(self.DESK, line, BadNumber, number=number)
        self.refuse(Desk("a"), "drop 0", BadNumber, number=0)

    def test_greatest_numbers(self):
        desk = Desk("a", "b")
        for line in ("span 1000000 1000000 a", "span 0 1000000 a b", "span 0 0 b", "span 1000000 - a b",
                     "window a -1000000 1000000", "window b 1000000 1000000", "drop 5", "window b -1000000 -1000000"):
            self.assertIsNone(desk.do(line))
        self.assertEqual(len(desk.facts), 6)

    def test_taken(self):
        for line, name in [("column a", "a"), ("column d", "d"), ("rename a b", "b"), ("rename a a", "a"),
                           ("rename d c", "c"), ("window a 0 1", "a"), ("window a -3 3", "a")]:
            self.refuse(self.DESK, line, Taken, name=name)
        desk = desk_with(TWELVE, *["row a"] * 23, "window a 1 2")
        self.refuse(desk, "column l", Taken, name="l")
        self.refuse(desk, "window a 5 6", Taken, name="a")

    def test_in_use(self):
        desk = desk_with(["row", "window", "c", "d", "e", "f"], "near c d", "row e", "span 0 - f", "window e 1 2")
        for name, number in [("c", 0), ("d", 0), ("e", 1), ("f", 2)]:
            self.refuse(desk, f"remove {name}", InUse, number=number)
        for name in ("row", "window"):
            self.assertIsNone(desk.do(f"remove {name}"))
        self.assertEqual(desk.columns, ("c", "d", "e", "f"))

    def test_too_many(self):
        desk = desk_with(TWELVE, *["row a b"] * 24)
        for line in ("row c", "near a b", "end a", "first a", "last a", "before a b", "over a b", "span 0 - a",
                     "window a 1 2"):
            self.refuse(desk, line, TooMany, many=24)
        self.refuse(desk, "column z", TooMany, many=12)
        for line in ("rename a z", "remove l", "column y", "drop 3", "row y", "ask count"):
            desk.do(line)
        self.assertEqual((len(desk.columns), len(desk.facts)), (12, 24))

    def test_other_checks_come_ahead_of_too_many(self):
        desk = desk_with(TWELVE, *["row a b"] * 23, "window a 1 2")
        for line, error, told in [("row x", UnknownColumn, {"name": "x"}), ("row a a", SameColumn, {"name": "a"}),
                                  ("span 2 1 a", BadNumber, {"number": 1}), ("window a 1 2", Taken, {"name": "a"}),
                                  ("column a", Taken, {"name": "a"})]:
            self.refuse(desk, line, error, **told)

    def test_strict_comes_last(self):
        desk = desk_with("abc", "before a b")
        desk.strict = True
        for line, error, told in [("before b b", SameColumn, {"name": "b"}), ("before b x", UnknownColumn, {"name": "x"}),
                                  ("over a", BadLine, {"place": 2}), ("remove a", InUse, {"number": 0}),
                                  ("before b a", Hindered, {"word": "clash"}), ("over a b", Hindered, {"word": "clash"})]:
            self.refuse(desk, line, error, **told)

    def test_questions_without_a_world(self):
        desk = desk_with("abc", "before a b", "before b a")
        for line in ("ask layout", "ask years", "ask places a", "ask far a b", "ask share a b", "ask mean a",
                     "ask sure a", "ask time a", "ask before a b", "ask not place a 2", "ask between a b c",
                     "ask beside a b"):
            self.refuse(desk, line, NoWorld, word="clash")
        for line, name in [("ask places x", "x"), ("ask time x", "x"), ("ask before x a", "x")]:
            self.refuse(desk, line, UnknownColumn, name=name)
        self.assertEqual([desk.do(f"ask {word}") for word in ("verdict", "count", "ring")], ["clash", 0, 2])

    def test_what_the_functions_raise(self):
        desk = desk_with("abc", "row a b")
        with self.assertRaises(NotSure) as caught:
            desk.do("ask time a c")
        self.assertIn(caught.exception.order, [["a", "b", "c"], ["c", "b", "a"]])


class RandomLinesTest(LinesTest):
    """The checks against a grammar of all lines, on desks of all kinds."""

    def desks(self):
        return [Desk(), Desk("a"), self.filled("abc", 5), self.filled("abcdef", 9), self.filled(TWELVE, 24),
                self.filled(["row", "ask", "not", "span"], 6), self.filled("abcd", 24), self.filled(TWELVE, 3)]

    def filled(self, columns, many):
        random, desk = Random(440), Desk(*columns)
        while len(desk.facts) < many:
            try:
                desk.do(random_line(random, desk.columns, desk.facts, [FACTS]))
            except RowsError:
                pass
        return desk

    def check_line(self, desk, line):
        twin = desk.twin()
        try:
            check_model(list(desk.columns), list(desk.facts), line)
        except Wrong as wrong:
            word, value = wrong.args
            with self.assertRaises(RowsError, msg=line) as caught:
                twin.do(line)
            self.assertEqual((type(caught.exception).__name__, vars(caught.exception)),
                             (word, {ATTRIBUTES[word]: value}), line)
            return word
        if not line.startswith("ask"):
            self.assertIsNone(twin.do(line))
        return "right"

    def test_random_lines(self):
        random = Random(441)
        seen = {}
        for desk in self.desks():
            for _ in range(600):
                line = random_line(random, desk.columns, desk.facts)
                for told in (line, spoiled(random, line), spoiled(random, spoiled(random, line))):
                    word = self.check_line(desk, told)
                    seen[word] = seen.get(word, 0) + 1
        self.assertEqual(sorted(seen), sorted([*ATTRIBUTES, "right"]))
        self.assertGreater(min(seen.values()), 20)

    def test_each_form_is_right_with_right_words(self):
        desk = self.filled(["a", "b", "c"], 3)
        told = {"A": "abc", "A+": "abc", "NEW": "zyx", "LEAST": "1", "MOST": "2", "LOW": "1", "HIGH": "2",
                "NUMBER": "0", "PLACE": "1"}
        for form in FACTS + CHANGES + [f"ask {form}" for form in QUESTIONS] + ASKED:
            words = [told.get(word, word)[at % len(told.get(word, word))] if word in told else word
                     for at, word in enumerate(form.split(" "))]
            self.check_line(desk, " ".join(words))
            for at in range(len(words)):
                self.check_line(desk, " ".join(words[:at]))
                self.check_line(desk, " ".join([*words[:at], "", *words[at:]]))

    def test_bad_text_is_not_what_do_raises(self):
        self.assertFalse(issubclass(BadLine, BadText))


if __name__ == "__main__":
    unittest.main()
