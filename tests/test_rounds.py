import unittest
from itertools import permutations
from random import Random

from helpers import TWELVE, check_new_lists, check_raises
from unbrokenrows.errors import BadNumber, BadRound, SameColumn, UnknownColumn
from unbrokenrows.rounds import Round

THIRTEEN = [*TWELVE, "m"]
GREAT = (-10 ** 9, -25, -13, -2, -1, 0, 1, 2, 7, 12, 24, 10 ** 9)


def rounds():
    random = Random(300)
    return [random.sample(TWELVE, many) for many in range(13) for _ in range(3)]


def walk(names, start):
    """The names that one meets going round from a name until it comes again, that name first."""
    found, at = [], names.index(start)
    while not found or names[at] != start:
        found.append(names[at])
        at = 0 if at == len(names) - 1 else at + 1
    return found


def splits_by_walking(names, p, q, r, s):
    met = []
    for name in walk(names, p):
        if name == q:
            break
        met.append(name)
    return [r in met, s in met].count(True) == 1


class MakingTest(unittest.TestCase):
    def test_wrong_names(self):
        for names, index in [([""], 0), (["a", "B"], 1), (["a", "abcdefghi"], 1), (["a", "b", "a"], 2), (["a", "a"], 1),
                             (["a", "b1"], 1), (["a", " "], 1), (["", "a", "a"], 0), (["a", "b-"], 1)]:
            check_raises(self, BadRound, {"index": index}, Round, names)
            check_raises(self, BadRound, {"index": index}, Round, tuple(names))

    def test_too_many_names(self):
        check_raises(self, BadRound, {"index": 12}, Round, THIRTEEN)
        check_raises(self, BadRound, {"index": 12}, Round, [*THIRTEEN, "n", "o"])
        self.assertEqual(len(Round(TWELVE)), 12)

    def test_wrong_names_come_ahead_of_too_many(self):
        for index in (0, 3, 11, 12, 13, 14):
            names = [*THIRTEEN, "n", "o"]
            names[index] = "A"
            check_raises(self, BadRound, {"index": index}, Round, names)
        check_raises(self, BadRound, {"index": 13}, Round, [*THIRTEEN, "a"])

    def test_names_of_any_kind(self):
        names = ["loose", "abcdefgh", "z", "firm"]
        self.assertEqual(list(Round(names)), names)

    def test_the_list_is_copied(self):
        names = ["a", "b", "c"]
        one = Round(names)
        names.clear()
        self.assertEqual(list(one), ["a", "b", "c"])
        self.assertEqual(list(Round(("a", "b"))), ["a", "b"])


class SequenceTest(unittest.TestCase):
    def test_length_and_iteration(self):
        for names in rounds():
            one = Round(names)
            self.assertEqual(len(one), len(names))
            self.assertEqual([name for name in one], names)
            self.assertEqual(list(one), names)
            check_new_lists(self, lambda: list(one))

    def test_items(self):
        for names in rounds():
            one = Round(names)
            for number in GREAT:
                if names:
                    self.assertEqual(one[number], names[number % len(names)])
                else:
                    check_raises(self, BadNumber, {"number": number}, one.__getitem__, number)
        self.assertEqual([Round("abc")[number] for number in range(-4, 5)], list("cabcabcab"))

    def test_in(self):
        one = Round(["a", "bcd", "e"])
        self.assertEqual([name in one for name in ("a", "bcd", "e", "b", "", "bc", "A", "f")],
                         [True, True, True, False, False, False, False, False])
        self.assertIs("a" in Round([]), False)


class TurningTest(unittest.TestCase):
    def test_moved(self):
        for names in rounds():
            one = Round(names)
            for number in GREAT:
                later, earlier = one << number, one >> number
                self.assertIsInstance(later, Round)
                at = number % max(1, len(names))
                self.assertEqual(list(later), names[at:] + names[:at])
                self.assertEqual(list(earlier), names[len(names) - at:] + names[:len(names) - at])
                self.assertTrue(later == one and earlier == one)
            self.assertEqual(list(one), names)
        self.assertEqual([list(Round("abcd") << 1), list(Round("abcd") >> 1)], [list("bcda"), list("dabc")])

    def test_other_direction(self):
        for names in rounds():
            other = ~Round(names)
            self.assertIsInstance(other, Round)
            self.assertEqual(list(other), names[:1] + names[1:][::-1])
            self.assertEqual(list(~other), names)
        self.assertEqual([list(~Round([])), list(~Round("a")), list(~Round("ab"))], [[], ["a"], ["a", "b"]])

    def test_equal(self):
        for many in range(5):
            for one in permutations(TWELVE[:many]):
                for other in permutations(TWELVE[:many]):
                    expected = many == 0 or walk(list(one), "a") == walk(list(other), "a")
                    self.assertIs(Round(one) == Round(other), expected)
                    self.assertIs(Round(one) != Round(other), not expected)

    def test_not_equal_with_other_names(self):
        self.assertFalse(Round("abc") == Round("abd"))
        self.assertFalse(Round("abc") == Round("ab"))
        self.assertFalse(Round("ab") == Round("abc"))
        self.assertFalse(Round([]) == Round("a") or Round("a") == Round([]))
        self.assertTrue(Round([]) == Round(()))
        self.assertFalse(Round("abc") == ~Round("abc"))


class CutTest(unittest.TestCase):
    def test_cut(self):
        for names in rounds():
            one = Round(names)
            for name in names:
                self.assertEqual(one.cut(name), walk(names, name)[1:])
                check_new_lists(self, lambda: one.cut(name))
        self.assertEqual([Round("abcd").cut("a"), Round("abcd").cut("d"), Round("a").cut("a")],
                         [["b", "c", "d"], ["a", "b", "c"], []])

    def test_unknown_column(self):
        for name in ("x", "", "ab", "A"):
            check_raises(self, UnknownColumn, {"name": name}, Round("ab").cut, name)
            check_raises(self, UnknownColumn, {"name": name}, Round([]).cut, name)


class SplitsTest(unittest.TestCase):
    def test_against_walking_round(self):
        for names in rounds():
            for four in list(permutations(names[:6], 4)) + list(permutations(names[-4:])) if len(names) > 3 else []:
                self.assertIs(Round(names).splits(*four), splits_by_walking(names, *four))

    def test_example(self):
        one = Round("abcd")
        self.assertIs(one.splits("a", "c", "b", "d"), True)
        self.assertIs(one.splits("a", "c", "d", "b"), True)
        self.assertIs(one.splits("a", "b", "c", "d"), False)
        self.assertIs(one.splits("a", "d", "b", "c"), False)

    def test_turned_or_moved_or_told_the_other_way(self):
        for four in permutations("abcd"):
            p, q, r, s = four
            one = Round("abcd")
            for other, told in [(one << 3, four), (~one, four), (one, (r, s, p, q)), (one, (q, p, s, r))]:
                self.assertIs(other.splits(*told), one.splits(*four))

    def test_unknown_column(self):
        one = Round("abcd")
        for told, name in [("xbcy", "x"), ("axcy", "x"), ("abxy", "x"), ("abcx", "x"), ("aaax", "x"), ("aabx", "x")]:
            check_raises(self, UnknownColumn, {"name": name}, one.splits, *told)
        check_raises(self, UnknownColumn, {"name": ""}, one.splits, "a", "a", "", "x")

    def test_same_column(self):
        one = Round("abcd")
        for told, name in [("aabc", "a"), ("abab", "a"), ("abca", "a"), ("abba", "b"), ("abcc", "c"), ("aabb", "a"),
                           ("abcb", "b"), ("aaaa", "a")]:
            check_raises(self, SameColumn, {"name": name}, one.splits, *told)


if __name__ == "__main__":
    unittest.main()
