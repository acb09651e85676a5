"""Exact fractions in lowest terms."""

from math import gcd
from fallsunder.checks import is_number
from fallsunder.errors import BadRatio

DIGITS = "0123456789"
LONGEST = 60


class Ratio:
    """An exact fraction, made of two integers."""

    def __init__(self, top, bottom=1):
        if not is_number(top):
            raise BadRatio(top)
        if not is_number(bottom) or bottom == 0:
            raise BadRatio(bottom)
        by = gcd(top, bottom)
        if bottom < 0:
            by = -by
        self.top = top // by
        self.bottom = bottom // by

    def __add__(self, other):
        if isinstance(other, Ratio):
            return Ratio(self.top * other.bottom + other.top * self.bottom, self.bottom * other.bottom)
        if is_number(other):
            return Ratio(self.top + other * self.bottom, self.bottom)
        return NotImplemented

    def __radd__(self, other):
        if is_number(other):
            return Ratio(self.top + other * self.bottom, self.bottom)
        return NotImplemented

    def __sub__(self, other):
        if isinstance(other, Ratio):
            return Ratio(self.top * other.bottom - other.top * self.bottom, self.bottom * other.bottom)
        if is_number(other):
            return Ratio(self.top - other * self.bottom, self.bottom)
        return NotImplemented

    def __rsub__(self, other):
        if is_number(other):
            return Ratio(other * self.bottom - self.top, self.bottom)
        return NotImplemented

    def __mul__(self, other):
        if isinstance(other, Ratio):
            return Ratio(self.top * other.top, self.bottom * other.bottom)
        if is_number(other):
            return Ratio(self.top * other, self.bottom)
        return NotImplemented

    def __rmul__(self, other):
        if is_number(other):
            return Ratio(self.top * other, self.bottom)
        return NotImplemented

    def __neg__(self):
        return Ratio(-self.top, self.bottom)

    def __eq__(self, other):
        if isinstance(other, Ratio):
            return self.top == other.top and self.bottom == other.bottom
        return is_number(other) and self.bottom == 1 and self.top == other

    def __str__(self):
        if self.bottom == 1:
            return f"{self.top}"
        return f"{self.top}/{self.bottom}"

    def less(self, other):
        """Is this one less than the other, a ratio or an integer?"""
        return (self - other).top < 0

    def at_most(self, other):
        """Is this one at most the other, a ratio or an integer?"""
        return (self - other).top <= 0

    def floor(self):
        """The greatest integer that is at most this ratio."""
        return self.top // self.bottom

    def ceiling(self):
        """The least integer that is at least this ratio."""
        return -(-self.top // self.bottom)

    @staticmethod
    def of(text):
        """The ratio with this text."""
        if not isinstance(text, str) or len(text) > LONGEST:
            raise BadRatio(text)
        top, slash, bottom = text.partition("/")
        bare = top.removeprefix("-")
        if not is_digits(bare) or (slash != "" and not is_digits(bottom)):
            raise BadRatio(text)
        below = 1 if slash == "" else int(bottom)
        # other spellings of a ratio, as 2/4 or 3/1, differ from its one text
        if below == 0 or f"{Ratio(int(top), below)}" != text:
            raise BadRatio(text)
        return Ratio(int(top), below)


def is_digits(text):
    """Is it a row of digits, at least one?"""
    return text != "" and all([sign in DIGITS for sign in text])
