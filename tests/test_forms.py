import unittest
from itertools import product
from random import Random

from helpers import TWELVE, check_raises, random_form
from unbrokenrows.errors import BadText
from unbrokenrows.forms import form_text, read_form

WRONG = [
    "", " ", "(", ")", "[", "]", "(a)", "[a]", "[a b]", "(a b", "a b)", "(a b]", "[a b c)", "(a  b)", "( a b)",
    "(a b )", " a", "a ", "a b", "(a b) c", "(a b)c", "(a b)(c d)", "(a b) ", " (a b)", "()a", "a()", "(() a)",
    "(a ())", "(a a)", "(a (b a))", "(a B)", "(a abcdefghi)", "(a 1)", "a1", "A", "abcdefghi", "[a b (c)]",
    "[a [b c] d]", "((a b))", "((a b) c", "(a b))", "(a(b c))", "(a b)]", "[]", "( )", "{a b}", "(a,b)", "(a b",
    "() ", " ()", "()()", ")a b(", "a)", "(a", "[a b c", "(a [b c d) e]",
    "(" + " ".join(TWELVE + ["m"]) + ")", "(a " * 13 + "b" + ")" * 13, "(" * 3000 + "a" + ")" * 3000, "(" * 3000,
]


class FormTest(unittest.TestCase):
    def test_example(self):
        found = [form_text(("loose", "a", ("firm", "b", "c", "d"))), read_form("[a (c b) d]")]
        self.assertEqual(found, ["(a [b c d])", ("firm", "a", ("loose", "c", "b"), "d")])

    def test_texts(self):
        for form, text in [
                ((), "()"), ("a", "a"), ("loose", "loose"), (("loose", "b", "a"), "(b a)"),
                (("firm", "c", "b", "a"), "[c b a]"), (("loose", "a", ("firm", "b", "c", "d"), "e"), "(a [b c d] e)"),
                (("loose", "loose", "firm"), "(loose firm)"), (("firm", "firm", "loose", "a"), "[firm loose a]"),
                (("firm", ("loose", "a", "b"), ("firm", "c", "d", "e"), "f"), "[(a b) [c d e] f]"),
                (("loose", "loose", ("loose", "firm", "abcdefgh")), "(loose (firm abcdefgh))")]:
            self.assertEqual(form_text(form), text)
            self.assertEqual(read_form(text), form)

    def test_there_and_back(self):
        random = Random(5)
        for _ in range(300):
            form = random_form(random, TWELVE[:random.randint(0, 12)])
            self.assertEqual(read_form(form_text(form)), form)

    def test_twelve_and_thirteen_names(self):
        self.assertEqual(read_form("(" + " ".join(TWELVE) + ")"), ("loose", *TWELVE))
        check_raises(self, BadText, {"line": 0}, read_form, "[" + " ".join(TWELVE + ["m"]) + "]")

    def test_deepest_form(self):
        text = "".join([f"({name} " for name in TWELVE[:11]]) + "l" + ")" * 11
        self.assertEqual(form_text(read_form(text)), text)

    def test_wrong_texts(self):
        for text in WRONG:
            check_raises(self, BadText, {"line": 0}, read_form, text)

    def test_short_texts(self):
        readable = []
        for signs in [signs for length in range(6) for signs in product("ab( )", repeat=length)]:
            text = "".join(signs)
            try:
                form = read_form(text)
            except BadText as error:
                self.assertEqual(error.line, 0)
            else:
                self.assertEqual(form_text(form), text)
                readable.append(text)
        self.assertEqual([text for text in readable if not text.isalpha()], ["()", "(a b)", "(b a)"])
        self.assertEqual(len(readable), 3 + 2 + 4 + 8 + 16 + 32)


if __name__ == "__main__":
    unittest.main()
