"""Point [4]: Ratio, less, plain and read_number."""

import unittest
from fractions import Fraction
from itertools import product
from unittest import mock

from everylist.errors import ListError, NoText
from everylist.ratios import Ratio, less, plain, read_number

THIRTY = 10 ** 30 - 1
NOT_NUMBERS = [True, False, None, "", "1", "1/2", 1.0, 0.5, 1j, [], [1], (1, 2), {}, {1}, b"1", object(), Ratio,
               Fraction(1, 2)]


def numbers():
    """Integers and Ratios of all kinds, each with the Fraction of its value."""
    pairs = [(top, bottom) for top in range(-6, 7) for bottom in (1, 2, 3, 4, -5, -6)]
    pairs += [(THIRTY, THIRTY - 1), (-THIRTY, THIRTY - 2), (THIRTY * 6, 4), (1, THIRTY), (-THIRTY, 1)]
    found = [(Ratio(top, bottom), Fraction(top, bottom)) for top, bottom in pairs]
    return found + [(top, Fraction(top)) for top in (*range(-6, 7), THIRTY, -THIRTY)]


class RatioTest(unittest.TestCase):
    def assert_is_ratio(self, thing, value):
        self.assertIs(type(thing), Ratio)
        self.assertIs(type(thing.top), int)
        self.assertIs(type(thing.bottom), int)
        self.assertEqual((thing.top, thing.bottom), (value.numerator, value.denominator))

    def assert_form(self, ratio, top, bottom):
        self.assertEqual((ratio.top, ratio.bottom), (top, bottom))

    def test_the_one_form(self):
        self.assert_form(Ratio(1, 2), 1, 2)
        self.assert_form(Ratio(6, 4), 3, 2)
        self.assert_form(Ratio(-6, 4), -3, 2)
        self.assert_form(Ratio(6, -4), -3, 2)
        self.assert_form(Ratio(-6, -4), 3, 2)
        self.assert_form(Ratio(8, 4), 2, 1)
        self.assert_form(Ratio(8, -4), -2, 1)
        self.assert_form(Ratio(5, -1), -5, 1)
        self.assert_form(Ratio(1, 3), 1, 3)
        self.assert_form(Ratio(top=4, bottom=6), 2, 3)

    def test_the_bottom_may_be_left_out(self):
        self.assert_form(Ratio(7), 7, 1)
        self.assert_form(Ratio(-7), -7, 1)
        self.assert_form(Ratio(0), 0, 1)

    def test_zero_has_one_form(self):
        for bottom in (1, -1, 7, -7, THIRTY, -THIRTY):
            self.assert_form(Ratio(0, bottom), 0, 1)

    def test_long_numbers(self):
        self.assert_form(Ratio(6 * THIRTY, 4 * THIRTY), 3, 2)
        self.assert_form(Ratio(THIRTY, -(THIRTY - 1)), -THIRTY, THIRTY - 1)
        self.assert_form(Ratio(10 ** 29, 10 ** 28 * 4), 5, 2)

    def test_every_form_is_that_of_the_value(self):
        for top in range(-12, 13):
            for bottom in (*range(-12, 0), *range(1, 13)):
                self.assert_is_ratio(Ratio(top, bottom), Fraction(top, bottom))

    def test_no_bottom_is_zero(self):
        for top in (0, 1, -1, THIRTY):
            with self.assertRaises(ZeroDivisionError):
                Ratio(top, 0)

    def test_sums_differences_and_products(self):
        for one, first in numbers():
            for two, second in numbers():
                if isinstance(one, int) and isinstance(two, int):
                    continue
                self.assert_is_ratio(one + two, first + second)
                self.assert_is_ratio(one - two, first - second)
                self.assert_is_ratio(one * two, first * second)

    def test_the_negative(self):
        for one, first in numbers():
            if isinstance(one, Ratio):
                self.assert_is_ratio(-one, -first)

    def test_what_is_calculated_with_stays(self):
        one, two = Ratio(3, 4), Ratio(-5, 6)
        [one + two, one - two, one * two, -one, one.over(two), one + 1, 1 - one, one * 3, one.over(7), one == two]
        self.assert_form(one, 3, 4)
        self.assert_form(two, -5, 6)

    def test_over(self):
        for one, first in numbers():
            for two, second in numbers():
                if isinstance(one, Ratio) and second != 0:
                    self.assert_is_ratio(one.over(two), first / second)

    def test_over_zero(self):
        for ratio in (Ratio(0), Ratio(1), Ratio(-3, 7)):
            for zero in (0, Ratio(0), Ratio(0, -5)):
                with self.assertRaises(ZeroDivisionError):
                    ratio.over(zero)

    def test_no_sums_with_anything_else(self):
        for thing in NOT_NUMBERS:
            for work in (lambda: Ratio(1, 2) + thing, lambda: Ratio(1, 2) - thing, lambda: Ratio(1, 2) * thing,
                         lambda: thing + Ratio(1, 2), lambda: thing - Ratio(1, 2), lambda: thing * Ratio(1, 2)):
                with self.assertRaises(TypeError):
                    work()

    def test_equal_to_numbers_of_the_same_value(self):
        for one, first in numbers():
            for two, second in numbers():
                self.assertIs(one == two, first == second)
                self.assertIs(one != two, first != second)

    def test_equal_to_nothing_else(self):
        for thing in [*NOT_NUMBERS, mock.ANY]:
            for ratio in (Ratio(0), Ratio(1), Ratio(1, 2)):
                self.assertIs(ratio == thing, False, thing)
                self.assertIs(ratio != thing, True, thing)
        for truth in (True, False):
            self.assertIs(truth == Ratio(int(truth)), False)
            self.assertIs(truth != Ratio(int(truth)), True)

    def test_text(self):
        self.assertEqual(str(Ratio(-7, 3)), "-7/3")
        self.assertEqual(str(Ratio(7, -3)), "-7/3")
        self.assertEqual(str(Ratio(14, 6)), "7/3")
        self.assertEqual(str(Ratio(1, 10)), "1/10")
        self.assertEqual(str(Ratio(4, 2)), "2")
        self.assertEqual(str(Ratio(-4, 2)), "-2")
        self.assertEqual(str(Ratio(0, 5)), "0")
        self.assertEqual(str(Ratio(THIRTY, 10 ** 30)), "9" * 30 + "/1" + "0" * 30)
        for one, first in numbers():
            self.assertEqual(str(one), str(first))

    def test_less(self):
        for one, first in numbers():
            for two, second in numbers():
                self.assertIs(less(one, two), first < second, (str(one), str(two)))

    def test_plain(self):
        for one, first in numbers():
            number = plain(one)
            if first.denominator == 1:
                self.assertIs(type(number), int)
                self.assertEqual(number, first.numerator)
            else:
                self.assert_is_ratio(number, first)
        self.assert_form(Ratio(4, 2), 2, 1)


class ReadNumberTest(unittest.TestCase):
    def assert_no_text(self, text):
        with self.assertRaises(NoText) as caught:
            read_number(text)
        self.assertIs(caught.exception.text, text)
        self.assertIsInstance(caught.exception, ListError)

    def test_whole_numbers(self):
        for number in (0, 1, -1, 7, 10, 100, -100, 120, 10 ** 29, THIRTY, -THIRTY, 10 ** 60 - 1, 10 ** 90):
            found = read_number(str(number))
            self.assertIs(type(found), int)
            self.assertEqual(found, number)

    def test_ratios(self):
        for text, top, bottom in (("1/2", 1, 2), ("-7/3", -7, 3), ("10/3", 10, 3), ("3/10", 3, 10), ("-1/100", -1, 100),
                                  ("9" * 30 + "/1" + "0" * 29, THIRTY, 10 ** 29),
                                  ("-1/1" + "0" * 60, -1, 10 ** 60)):
            found = read_number(text)
            self.assertIs(type(found), Ratio)
            self.assertEqual((found.top, found.bottom), (top, bottom))

    def test_each_number_is_read_back(self):
        for number, value in numbers():
            found = read_number(str(number))
            self.assertIs(type(found), int if value.denominator == 1 else Ratio)
            self.assertEqual(found, number)

    def test_other_texts(self):
        for text in (
                "", " ", "  ", "\n", "-", "+", "/", "//", "-/", "--", "a", "x", "1a", "a1", "one", "None", "True", "1.0", "1.", ".5",
                "1e3", "1_000", "1,000", "0x1", "0b1", "1 2", " 1", "1 ", " 1 ", "1\n", "\n1", "1\n2", "- 1", "-\n1",
                "00", "01", "007", "-01", "-007", "000", "-0", "-00", "+0", "+1", "+1/2", "--1", "-+1", "+-1", "1-",
                "1/", "/2", "-/2", "1/0", "0/0", "-1/0", "1/00", "0/1", "0/2", "0/5", "-0/1", "-0/2", "1/1", "7/1",
                "-3/1", "2/2", "4/2", "2/4", "-2/4", "6/3", "6/4", "10/15", "-10/5", "1/-2", "-1/-2", "1/+2",
                "1/2/3", "1//2", "1/2/", "/1/2", "1/2/1", "01/2", "1/02", "-01/2", "00/2", "1 /2", "1/ 2", "1 / 2",
                "1/2 ", " 1/2", "1/2\n", "1\n/2", "1/\n2", "1/a", "a/2", "1/2.0", "1\\2", "(1)", "1*2", "1^2", "--1/2",
                "-" + "0" * 60, "0" * 60, "0" + "9" * 59, "1" + "0" * 59 + "/1" + "0" * 58, "~", "!",
                "\u0661", "\u00b2", "1\u0661", "1/\u0662", "\uff11"):
            with self.subTest(text=text):
                self.assert_no_text(text)

    def test_no_texts(self):
        for thing in (None, 1, True, Ratio(1, 2), b"1", ["1"], ("1",), {}, 1.5):
            self.assert_no_text(thing)

    def test_all_short_texts(self):
        values = [Fraction(top) for top in range(-999, 10000)]
        values += [Fraction(top, bottom) for top in range(-9, 100) for bottom in range(1, 100)]
        told = {str(value): value for value in values}
        for many in range(5):
            for signs in product("0127-+/ \n", repeat=many):
                text = "".join(signs)
                if text not in told:
                    self.assert_no_text(text)
                    continue
                number = read_number(text)
                value = told[text]
                self.assertIs(type(number), int if value.denominator == 1 else Ratio)
                self.assertEqual(number, Ratio(value.numerator, value.denominator))


if __name__ == "__main__":
    unittest.main()
