"""Shares: fractions of integers in lowest terms."""

from math import gcd

from unbrokenrows.errors import BadShare


class Share:
    """The fraction num / den, with den >= 1 and without a common divisor."""

    def __init__(self, num, den=1):
        if den == 0:
            raise BadShare("the denominator is 0")
        common = gcd(num, den)
        if den < 0:
            common = -common
        self.num = num // common
        self.den = den // common

    def below(self, other):
        """True if this share is less than the other one."""
        return self.num * other.den < other.num * self.den

    @staticmethod
    def total(shares):
        """The sum of a list of shares."""
        result = Share(0)
        for share in shares:
            result = result + share
        return result

    def __add__(self, other):
        if not isinstance(other, Share):
            return NotImplemented
        return Share(self.num * other.den + other.num * self.den, self.den * other.den)

    def __sub__(self, other):
        if not isinstance(other, Share):
            return NotImplemented
        return Share(self.num * other.den - other.num * self.den, self.den * other.den)

    def __mul__(self, other):
        if isinstance(other, int):
            return Share(self.num * other, self.den)
        if not isinstance(other, Share):
            return NotImplemented
        return Share(self.num * other.num, self.den * other.den)

    def __rmul__(self, other):
        if not isinstance(other, int):
            return NotImplemented
        return Share(other * self.num, self.den)

    def __neg__(self):
        return Share(-self.num, self.den)

    def __abs__(self):
        return Share(abs(self.num), self.den)

    def __bool__(self):
        return bool(self.num)

    def __eq__(self, other):
        return isinstance(other, Share) and self.num == other.num and self.den == other.den

    def __str__(self):
        if self.den == 1:
            return str(self.num)
        return f"{self.num}/{self.den}"
