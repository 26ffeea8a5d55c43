"""Exact numbers: integers, and ratios of two integers."""

from math import gcd

from everylist.checks import are_digits, is_int
from everylist.errors import NoText


class Ratio:
    """The number top / bottom, without a common divisor and with a bottom above 0."""

    def __init__(self, top, bottom=1):
        if bottom == 0:
            raise ZeroDivisionError("the bottom of a ratio is 0")
        divisor = gcd(top, bottom)
        if bottom < 0:
            divisor = -divisor
        self.top = top // divisor
        self.bottom = bottom // divisor

    def __add__(self, other):
        if not is_number(other):
            return NotImplemented
        return Ratio(self.top * bottom_of(other) + top_of(other) * self.bottom, self.bottom * bottom_of(other))

    def __radd__(self, other):
        if not is_number(other):
            return NotImplemented
        return Ratio(other * self.bottom + self.top, self.bottom)

    def __sub__(self, other):
        if not is_number(other):
            return NotImplemented
        return Ratio(self.top * bottom_of(other) - top_of(other) * self.bottom, self.bottom * bottom_of(other))

    def __rsub__(self, other):
        if not is_number(other):
            return NotImplemented
        return Ratio(other * self.bottom - self.top, self.bottom)

    def __mul__(self, other):
        if not is_number(other):
            return NotImplemented
        return Ratio(self.top * top_of(other), self.bottom * bottom_of(other))

    def __rmul__(self, other):
        if not is_number(other):
            return NotImplemented
        return Ratio(other * self.top, self.bottom)

    def __neg__(self):
        return Ratio(-self.top, self.bottom)

    def over(self, other):
        """Returns the ratio of this number to another one."""
        return Ratio(self.top * bottom_of(other), self.bottom * top_of(other))

    def __eq__(self, other):
        return is_number(other) and self.top == top_of(other) and self.bottom == bottom_of(other)

    def __str__(self):
        if self.bottom == 1:
            return f"{self.top}"
        return f"{self.top}/{self.bottom}"


def is_number(thing):
    """Tells whether something is a number, an integer or a Ratio."""
    return is_int(thing) or isinstance(thing, Ratio)


def top_of(number):
    """Returns the top of a number; that of an integer is the integer."""
    return number.top if isinstance(number, Ratio) else number


def bottom_of(number):
    """Returns the bottom of a number; that of an integer is 1."""
    return number.bottom if isinstance(number, Ratio) else 1


def less(one, two):
    """Tells whether a number is less than another one."""
    return top_of(one) * bottom_of(two) < top_of(two) * bottom_of(one)


def plain(number):
    """Returns the number as an integer if it is whole, otherwise as a Ratio."""
    if isinstance(number, Ratio) and number.bottom == 1:
        return number.top
    return number


def read_number(text):
    """Returns the plain number whose text this is, or raises NoText."""
    number = _number_told(text)
    # Each number has one text only: other ways to write it are refused by writing the number again.
    if number is None or str(number) != text:
        raise NoText(text)
    return number


def _number_told(text):
    """Returns the plain number that a text tells in this or another way, or None."""
    if not isinstance(text, str):
        return None
    top, stroke, bottom = text.removeprefix("-").partition("/")
    if stroke == "":
        bottom = "1"
    if not are_digits(top) or not are_digits(bottom) or int(bottom) == 0:
        return None
    number = Ratio(int(top), int(bottom))
    return plain(-number if text.startswith("-") else number)
