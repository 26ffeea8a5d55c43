"""Point [9]: read_sum and sum_text."""

import random
import unittest
from unittest import mock

from everylist.errors import BadSum
from everylist.polys import Poly
from everylist.ratios import Ratio
from everylist.sums import read_sum, sum_text

THIRTY = 10 ** 30 - 1
REGISTERS = ["total", "count"]
FIELDS = ["price", "many"]
ANY_OBJECTS = [None, True, False, 0, 1, 1.5, b"total", [], ["total"], ("total",), {}, {"total"}, {"total": 1},
               object(), Ratio(1, 2), Poly([], {}), len, mock.ANY]


def terms_of(parts):
    """The terms of the parts of a sum, by their sources."""
    return {source: poly.terms() for source, poly in parts.items()}


class ReadTest(unittest.TestCase):
    def assert_read(self, text, expected, one_text):
        """Asserts that a text is a sum with these terms and what its one text is."""
        for registers, fields in ((REGISTERS, FIELDS), (tuple(REGISTERS), tuple(FIELDS))):
            parts = read_sum(text, registers, fields)
            self.assertEqual(terms_of(parts), expected, text)
            self.assertEqual(list(parts), [name for name in [*REGISTERS, "1"] if name in expected])
            self.assertIs(type(parts), dict)
            for poly in parts.values():
                self.assertIs(type(poly), Poly)
                self.assertEqual(poly.fields, tuple(FIELDS))
            self.assertEqual(sum_text(parts, registers), one_text)
        self.assertEqual(read_sum(one_text, REGISTERS, FIELDS), parts)

    def test_the_example_of_the_document(self):
        text = "2*price^2*total - total + 1/2"
        self.assert_read(text, {"total": {(2, 0): 2, (0, 0): -1}, "1": {(0, 0): Ratio(1, 2)}}, text)

    def test_single_factors(self):
        for text, expected in (("total", {"total": {(0, 0): 1}}), ("count", {"count": {(0, 0): 1}}),
                               ("price", {"1": {(1, 0): 1}}), ("many", {"1": {(0, 1): 1}}),
                               ("many^2", {"1": {(0, 2): 1}}), ("1", {"1": {(0, 0): 1}}), ("7", {"1": {(0, 0): 7}}),
                               ("10", {"1": {(0, 0): 10}}), ("1/2", {"1": {(0, 0): Ratio(1, 2)}}),
                               ("many^10", {"1": {(0, 10): 1}}), ("many^99", {"1": {(0, 99): 1}})):
            self.assert_read(text, expected, text)
            minus = {source: {term: -number for term, number in terms.items()} for source, terms in expected.items()}
            self.assert_read(f"-{text}", minus, f"-{text}")

    def test_nothing(self):
        for text in ("0", "-0", "0/5", "0*price", "total*0", "total - total", "price*total - total*price", "0 - 0",
                     "-price + price", "1/2 - 2/4", "0*total*price^9", "0 + 0*count"):
            self.assert_read(text, {}, "0")

    def test_factors_in_any_order(self):
        for text in ("2*price*many*total", "total*2*many*price", "many*total*price*2", "price*many*total*2",
                     "2*1*price*1*many*total", "1/2*total*price*many*4"):
            self.assert_read(text, {"total": {(1, 1): 2}}, "2*price*many*total")

    def test_factors_that_stand_twice(self):
        self.assert_read("price*price", {"1": {(2, 0): 1}}, "price^2")
        self.assert_read("price*many*price^2*many^3", {"1": {(3, 4): 1}}, "price^3*many^4")
        self.assert_read("2*3*count*2/3", {"count": {(0, 0): 4}}, "4*count")
        self.assert_read("2/3*3/2*price", {"1": {(1, 0): 1}}, "price")

    def test_powers_of_one(self):
        self.assert_read("price^1*total", {"total": {(1, 0): 1}}, "price*total")

    def test_numbers_in_other_forms(self):
        self.assert_read("2/4", {"1": {(0, 0): Ratio(1, 2)}}, "1/2")
        self.assert_read("4/2*price", {"1": {(1, 0): 2}}, "2*price")
        self.assert_read("3/1*total", {"total": {(0, 0): 3}}, "3*total")
        self.assert_read("10/100", {"1": {(0, 0): Ratio(1, 10)}}, "1/10")
        self.assert_read("1*total", {"total": {(0, 0): 1}}, "total")

    def test_terms_in_any_order(self):
        self.assert_read("1 + many + price + count + price*total + total",
                         {"total": {(1, 0): 1, (0, 0): 1}, "count": {(0, 0): 1},
                          "1": {(1, 0): 1, (0, 1): 1, (0, 0): 1}},
                         "price*total + total + count + price + many + 1")
        self.assert_read("-5 - total", {"total": {(0, 0): -1}, "1": {(0, 0): -5}}, "-total - 5")
        self.assert_read("many^2*count + price*count", {"count": {(1, 0): 1, (0, 2): 1}},
                         "price*count + many^2*count")

    def test_terms_that_stand_twice(self):
        self.assert_read("total + total", {"total": {(0, 0): 2}}, "2*total")
        self.assert_read("1/2*price - 1/3*price + 1", {"1": {(1, 0): Ratio(1, 6), (0, 0): 1}}, "1/6*price + 1")
        self.assert_read("price*total - total*price + count", {"count": {(0, 0): 1}}, "count")
        self.assert_read("1/2 + 1/2", {"1": {(0, 0): 1}}, "1")

    def test_numbers_are_plain(self):
        parts = read_sum("1/2*total + 3/2*total", REGISTERS, FIELDS)
        self.assertIs(type(parts["total"].terms()[(0, 0)]), int)

    def test_long_numbers(self):
        text = f"{THIRTY}/{THIRTY - 1}*price*total - {THIRTY}*total"
        self.assert_read(text, {"total": {(1, 0): Ratio(THIRTY, THIRTY - 1), (0, 0): -THIRTY}}, text)

    def test_without_registers_or_fields(self):
        self.assertEqual(terms_of(read_sum("2*x - 1", [], ["x"])), {"1": {(1,): 2, (0,): -1}})
        self.assertEqual(terms_of(read_sum("2*s - 1", ["s"], [])), {"s": {(): 2}, "1": {(): -1}})
        self.assertEqual(terms_of(read_sum("-1/2", (), ())), {"1": {(): Ratio(-1, 2)}})
        self.assertEqual(read_sum("0", [], []), {})

    def test_names_that_begin_alike(self):
        parts = read_sum("ab*a - abc*b", ["a", "b"], ["ab", "abc"])
        self.assertEqual(terms_of(parts), {"a": {(1, 0): 1}, "b": {(0, 1): -1}})

    def test_what_was_passed_stays_and_what_is_returned_is_new(self):
        registers, fields = ["s"], ["x"]
        parts = read_sum("x*s + 1", registers, fields)
        self.assertEqual((registers, fields), (["s"], ["x"]))
        fields[0] = "y"
        registers.append("t")
        self.assertEqual(parts["s"].fields, ("x",))
        parts.clear()
        self.assertEqual(len(read_sum("x*s + 1", ["s"], ["x"])), 2)


class BadSumTest(unittest.TestCase):
    def assert_bad(self, text, registers=REGISTERS, fields=FIELDS):
        with self.assertRaises(BadSum, msg=text) as caught:
            read_sum(text, registers, fields)
        self.assertIs(caught.exception.text, text)

    def test_no_factor(self):
        for text in ("", "-", "*", "**", "total*", "*total", "total**count", "+", " ", "total + ", " + total", "1 - ",
                     "-*total", "2**price"):
            self.assert_bad(text)

    def test_signs_and_spaces(self):
        for text in (" total", "total ", "total  + 1", "total +  1", "total+1", "total +1", "total+ 1", "total-1",
                     "total - -1", "total + -1", "total + - 1", "--total", "- total", "+total", "+ total", "-+total",
                     "total * 2", "2 *total", "2* total", "total 1", "total + + 1", "total 1 +", "total\n", "\ntotal",
                     "total\n+ 1", "total + 1\n", "total\t+ 1", "(total)", "total / 2", "total,1", "total - ",
                     "total ~ 1", "total * count", "- - 1", "+ + total", "- total + 1", "-total -1"):
            self.assert_bad(text)

    def test_numbers(self):
        for text in ("00", "01", "007", "-01", "1/0", "1/00", "0/0", "1/02", "01/2", "00/1", "1/", "/2", "/", "1//2",
                     "1/2/3", "1/-2", "-1/-2", "--1", "+1", "1.5", "1e3", "1_000", "1,000", "0x1", "2*-3", "1 /2",
                     "1/ 2", "1^2", "2^1", "2price", "2total", "price2", "\u0661", "\u00b2", "2*01", "2*1/0"):
            self.assert_bad(text)

    def test_powers(self):
        for text in ("price^", "price^0", "price^00", "price^01", "price^1/2", "price^-1", "price^100", "price^099",
                     "price^2^2", "price^x", "price^many", "price^ 2", "price ^2", "^2", "price^+2", "price^2.0",
                     "price^1234567890", "price**2", "price^\u0662", "2*price^0*total"):
            self.assert_bad(text)

    def test_powers_of_registers(self):
        for text in ("total^1", "total^2", "total^", "count^1*price"):
            self.assert_bad(text)

    def test_several_registers(self):
        for text in ("total*total", "total*count", "total*2*total", "price*total*many*count", "0*total*total",
                     "1 + count*count"):
            self.assert_bad(text)

    def test_other_names(self):
        for text in ("other", "Total", "tota", "totals", "total1", "x", "2*x", "total*x", "pric", "prices", "total.",
                     "price_", "-other", "1 + other"):
            self.assert_bad(text)
        self.assert_bad("price*total", REGISTERS, [])
        self.assert_bad("price*total", [], FIELDS)
        self.assert_bad("x", (), ())

    def test_one_bad_term_among_others(self):
        for text in ("bad + total + 1", "total + bad + 1", "total + 1 + bad", "total + 1 - total*total"):
            self.assert_bad(text)

    def test_any_objects(self):
        for thing in ANY_OBJECTS:
            self.assert_bad(thing)


class SumTextTest(unittest.TestCase):
    def assert_text(self, parts, text, fields=FIELDS, registers=REGISTERS):
        made = {source: Poly(fields, terms) for source, terms in parts.items()}
        before = dict(made)
        self.assertEqual(sum_text(made, registers), text)
        self.assertEqual(sum_text(made, tuple(registers)), text)
        self.assertEqual(list(made.items()), list(before.items()))

    def test_no_terms(self):
        self.assert_text({}, "0")
        self.assert_text({"total": {}, "count": {(1, 0): 0}, "1": {}}, "0")
        self.assert_text({}, "0", [], [])

    def test_sources_that_lack_or_have_no_terms(self):
        self.assert_text({"count": {(0, 0): 2}}, "2*count")
        self.assert_text({"total": {}, "count": {(0, 0): 2}, "1": {}}, "2*count")
        self.assert_text({"total": {(0, 0): 1}, "count": {}, "1": {(0, 0): -3}}, "total - 3")

    def test_sources_in_order_whatever_the_dict(self):
        self.assert_text({"1": {(0, 0): 1}, "count": {(0, 0): -1}, "total": {(0, 0): 1}}, "total - count + 1")
        self.assert_text({"1": {(0, 0): 1}, "a": {(0, 0): 1}, "z": {(0, 0): -1}}, "-z + a + 1", FIELDS, ["z", "a"])

    def test_terms_in_order(self):
        self.assert_text({"total": {(0, 0): 1, (0, 2): 2, (1, 0): 3, (2, 1): -4}, "1": {(0, 1): 5, (1, 1): -6}},
                         "-4*price^2*many*total + 3*price*total + 2*many^2*total + total - 6*price*many + 5*many")

    def test_the_number_one(self):
        self.assert_text({"total": {(0, 0): 1}}, "total")
        self.assert_text({"total": {(0, 0): -1}}, "-total")
        self.assert_text({"total": {(1, 0): -1}, "1": {(0, 0): 1}}, "-price*total + 1")
        self.assert_text({"1": {(0, 0): -1}}, "-1")
        self.assert_text({"1": {(0, 3): 1, (0, 0): -1}}, "many^3 - 1")

    def test_other_numbers(self):
        self.assert_text({"total": {(0, 0): Ratio(-7, 3)}, "1": {(0, 0): Ratio(1, 2)}}, "-7/3*total + 1/2")
        self.assert_text({"total": {(1, 2): THIRTY}, "1": {(1, 0): Ratio(-1, THIRTY)}},
                         f"{THIRTY}*price*many^2*total - 1/{THIRTY}*price")

    def test_without_fields(self):
        self.assert_text({"1": {(): 2}, "total": {(): -1}}, "-total + 2", [])

    def test_great_powers(self):
        self.assert_text({"1": {(12, 100): 1}}, "price^12*many^100")

    def test_written_sums_are_read_again(self):
        made = random.Random(9)
        numbers = [0, 1, -1, 2, -12, Ratio(1, 2), Ratio(-7, 3), THIRTY, Ratio(-THIRTY, 10 ** 29 + 1)]
        for _ in range(300):
            parts = {}
            for source in made.sample(["total", "count", "1"], made.randrange(4)):
                terms = {(made.randrange(3), made.randrange(13)): made.choice(numbers) for _ in range(3)}
                parts[source] = Poly(FIELDS, terms)
            text = sum_text(parts, REGISTERS)
            told = read_sum(text, REGISTERS, FIELDS)
            self.assertEqual(told, {source: poly for source, poly in parts.items() if poly.terms() != {}})
            self.assertEqual(sum_text(told, REGISTERS), text)


if __name__ == "__main__":
    unittest.main()
