import unittest
from fractions import Fraction
from itertools import product

from helpers import check_raises
from unbrokenrows.errors import BadShare
from unbrokenrows.shares import Share

LONG = 10 ** 99 + 7


def parts(share):
    return share.num, share.den


def small():
    return [(Share(num, den), Fraction(num, den)) for num in range(-4, 5) for den in (-3, -2, -1, 1, 2, 4, 6)]


class ShareTest(unittest.TestCase):
    def same(self, share, fraction):
        self.assertIsInstance(share, Share)
        self.assertEqual(parts(share), (fraction.numerator, fraction.denominator))

    def test_example(self):
        found = [str(Share(2, -4)), str(2 * Share(1, 2) - Share(1, 3)), Share(1, 3).below(Share(1, 2))]
        self.assertEqual(found, ["-1/2", "2/3", True])

    def test_lowest_terms(self):
        for num, den, expected in [
                (6, 4, (3, 2)), (6, -4, (-3, 2)), (-6, -4, (3, 2)), (-6, 4, (-3, 2)), (0, 5, (0, 1)),
                (0, -5, (0, 1)), (8, 4, (2, 1)), (LONG * 6, LONG * -4, (-3, 2)), (LONG, 1, (LONG, 1))]:
            self.assertEqual(parts(Share(num, den)), expected)
        self.assertEqual(parts(Share(7)), (7, 1))
        self.assertEqual(parts(Share(10 ** 99, 10 ** 99 + 1)), (10 ** 99, 10 ** 99 + 1))

    def test_bad_share(self):
        for num in (0, 1, -LONG):
            check_raises(self, BadShare, {}, Share, num, 0)

    def test_operators_of_two_shares(self):
        for (a, one), (b, other) in product(small(), small()):
            self.same(a + b, one + other)
            self.same(a - b, one - other)
            self.same(a * b, one * other)
            self.assertIs(a == b, one == other)
            self.assertIs(a != b, one != other)
            self.assertIs(a.below(b), one < other)

    def test_operators_with_integers(self):
        for (a, one), k in product(small(), (-3, 0, 1, 4)):
            self.same(a * k, one * k)
            self.same(k * a, one * k)

    def test_other_operators(self):
        for a, one in small():
            self.same(-a, -one)
            self.same(abs(a), abs(one))
            self.assertIs(bool(a), bool(one))
            self.assertEqual(str(a), str(one))

    def test_long_numbers(self):
        a, b = Share(LONG, LONG - 1), Share(-LONG, LONG + 1)
        one, other = Fraction(LONG, LONG - 1), Fraction(-LONG, LONG + 1)
        self.same(a + b, one + other)
        self.same(a - b, one - other)
        self.same(a * b, one * other)
        self.assertTrue(b.below(a))
        self.assertFalse(a.below(a))
        self.assertEqual(str(a), f"{LONG}/{LONG - 1}")

    def test_operands_stay(self):
        a, b = Share(1, 2), Share(-1, 3)
        for made in (a + b, a - b, a * b, a * 3, 3 * a, -a, abs(b), abs(a), a * 1, a + Share(0)):
            self.assertIsNot(made, a)
        self.assertEqual([parts(a), parts(b)], [(1, 2), (-1, 3)])

    def test_total(self):
        shares = [Share(1, 2), Share(1, 3), Share(-5, 6), Share(3)]
        self.assertEqual(parts(Share.total(shares)), (3, 1))
        self.assertEqual(parts(Share.total(tuple(shares[:2]))), (5, 6))
        self.assertEqual(parts(Share.total([])), (0, 1))
        self.assertEqual(parts(Share.total(())), (0, 1))
        self.assertEqual([parts(share) for share in shares], [(1, 2), (1, 3), (-5, 6), (3, 1)])
        alone = [Share(2, 3)]
        self.assertIsNot(Share.total(alone), alone[0])


if __name__ == "__main__":
    unittest.main()
