"""Point [3]: what an integer, a number, a name and a list is; and what digits are."""

import unittest

from everylist.checks import are_digits, is_int, is_list, is_name
from everylist.ratios import Ratio, is_number

OTHERS = [True, False, None, "", "1", "a", 1.0, 0.5, 1j, [], [1], (), (1,), {}, {1}, b"", b"a", object(), int, len]


class ChecksTest(unittest.TestCase):
    def test_integers(self):
        for thing in (0, 1, -1, 10 ** 40, -(10 ** 40)):
            self.assertIs(is_int(thing), True)
        for thing in [*OTHERS, Ratio(1), Ratio(1, 2)]:
            self.assertIs(is_int(thing), False, thing)

    def test_numbers(self):
        for thing in (0, 1, -1, 10 ** 40, Ratio(0), Ratio(2), Ratio(-1, 2)):
            self.assertIs(is_number(thing), True)
        for thing in OTHERS:
            self.assertIs(is_number(thing), False, thing)

    def test_names(self):
        for thing in ("a", "z", "az", "abcdefgh", "stuvwxyz", "aaaaaaaa", "None".lower()):
            self.assertIs(is_name(thing), True, thing)
        for thing in ("", "abcdefghi", "A", "aB", "a1", "1", "_", "a_b", "a b", " a", "a ", "a\n", "a-b", "`", "{",
                      "\u00e9", "\u0430", "\u01c6"):
            self.assertIs(is_name(thing), False, thing)
        for thing in (0, 1, True, None, [], ["a"], ("a",), ("a", "b"), {"a": 1}, {"a"}, b"a", 1.5, Ratio(1), object()):
            self.assertIs(is_name(thing), False, thing)

    def test_lists(self):
        for thing in ([], [1], (), (1, 2)):
            self.assertIs(is_list(thing), True)
        for thing in (None, 1, "ab", {}, {1}, b"ab", range(2), iter([]), object(), Ratio(1)):
            self.assertIs(is_list(thing), False)

    def test_digits(self):
        for text in ("0", "9", "0123456789", "007"):
            self.assertIs(are_digits(text), True)
        for text in ("", " ", "-1", "1 ", "1/2", "1.0", "a", "1a", "1\n", "\u0661", "\u00b2"):
            self.assertIs(are_digits(text), False)


if __name__ == "__main__":
    unittest.main()
