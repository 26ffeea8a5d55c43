"""Points [5] and [6]: Poly."""

import copy
import unittest
from fractions import Fraction
from itertools import product
from unittest import mock

from everylist.errors import BadName, NoTerm, OtherFields, WrongCount
from everylist.polys import Poly
from everylist.ratios import Ratio

THIRTY = 10 ** 30 - 1
LONG = Ratio(THIRTY, THIRTY - 1)
XY = ("x", "y")
ANY_OBJECTS = [None, True, False, 0, 1, -1, 1.5, "", "A", "x1", "x ", "abcdefghi", b"x", [], ["x"], (), ("x",), {},
               {"x"}, object(), Ratio(1, 2), Poly([], {}), len, mock.ANY]


def value(number):
    """The Fraction of a number of the package."""
    return Fraction(number) if isinstance(number, int) else Fraction(number.top, number.bottom)


def model(poly):
    """The terms of a polynomial with Fractions."""
    return {term: value(number) for term, number in poly.terms().items()}


def without_zeros(terms):
    return {term: number for term, number in terms.items() if number != 0}


def added(one, two):
    return without_zeros({term: one.get(term, 0) + two.get(term, 0) for term in {**one, **two}})


def multiplied(one, two):
    total = {}
    for (term, number), (more, factor) in product(one.items(), two.items()):
        key = tuple([a + b for a, b in zip(term, more)])
        total[key] = total.get(key, 0) + number * factor
    return without_zeros(total)


def value_at(terms, numbers):
    """The value of a polynomial, all in Fractions."""
    total = Fraction(0)
    for term, number in terms.items():
        for power, base in zip(term, numbers):
            number = number * base ** power
        total += number
    return total


def polys():
    """Polynomials in x and y of many kinds."""
    numbers = [3, -1, Ratio(1, 2), Ratio(-7, 3), THIRTY, LONG, -LONG]
    found = [Poly(XY, {}), Poly(XY, {(0, 0): 1}), Poly(XY, {(0, 0): -LONG}), Poly(XY, {(1, 0): 1, (0, 1): -1})]
    for k, number in enumerate(numbers):
        other = numbers[k - 1]
        found.append(Poly(XY, {(k % 3, 1): number, (0, k % 2): other, (2, 2): k - 3}))
        found.append(Poly(XY, {(1, 0): other, (0, 1): number, (0, 0): 1}))
    return found


class PolyTest(unittest.TestCase):
    def assert_plain(self, number, expected):
        """Asserts that a number has this value and is an integer if it is whole."""
        self.assertEqual(value(number), expected)
        self.assertIs(type(number), int if expected.denominator == 1 else Ratio)

    def assert_poly(self, poly, fields, terms):
        """Asserts that a polynomial has these fields and these terms, Fractions, in the one form."""
        self.assertIs(type(poly), Poly)
        self.assertEqual(poly.fields, tuple(fields))
        self.assertIs(type(poly.fields), tuple)
        self.assertEqual(list(poly.terms()), sorted(terms, reverse=True))
        for term, number in poly.terms().items():
            self.assertIs(type(term), tuple)
            self.assert_plain(number, Fraction(terms[term]))
            self.assertNotEqual(value(number), 0)


class MadeTest(PolyTest):
    def test_fields_and_terms(self):
        self.assert_poly(Poly(["x", "y"], {(1, 2): 3, (0, 0): -1}), XY, {(1, 2): 3, (0, 0): -1})
        self.assert_poly(Poly(["abcdefgh", "a"], {(12, 0): 1}), ["abcdefgh", "a"], {(12, 0): 1})
        self.assert_poly(Poly(("y", "x"), {(0, 1): LONG}), ["y", "x"], {(0, 1): value(LONG)})

    def test_numbers_are_plain_and_none_is_zero(self):
        terms = {(3,): Ratio(8, 4), (2,): Ratio(0, 7), (1,): 0, (0,): Ratio(1, -2)}
        self.assert_poly(Poly(["x"], terms), ["x"], {(3,): 2, (0,): Fraction(-1, 2)})
        self.assertIs(type(Poly(["x"], terms).terms()[(3,)]), int)

    def test_greater_powers_first(self):
        terms = {term: 1 for term in product(range(3), repeat=3)}
        self.assertEqual(list(Poly("xyz", terms).terms()), sorted(terms, reverse=True))
        found = Poly(["x", "y"], {(0, 12): 1, (1, 0): 2, (0, 0): 3, (1, 9): 4, (10, 0): 5, (9, 0): 6})
        self.assertEqual(list(found.terms()), [(10, 0), (9, 0), (1, 9), (1, 0), (0, 12), (0, 0)])

    def test_no_terms_and_no_fields(self):
        self.assert_poly(Poly(["x"], {}), ["x"], {})
        self.assert_poly(Poly([], {}), [], {})
        self.assert_poly(Poly((), {(): 5}), [], {(): 5})
        self.assert_poly(Poly([], {(): 0}), [], {})

    def test_what_was_passed_stays_and_may_be_changed(self):
        fields, terms = ["x", "y"], {(0, 0): Ratio(4, 2), (1, 1): 0}
        poly = Poly(fields, terms)
        self.assertEqual((fields, list(terms.items())), (["x", "y"], [((0, 0), Ratio(2)), ((1, 1), 0)]))
        self.assertIs(type(terms[(0, 0)]), Ratio)
        fields.append("z")
        fields[0] = "w"
        terms[(5, 5)] = 1
        del terms[(0, 0)]
        self.assert_poly(poly, XY, {(0, 0): 2})

    def test_what_is_returned_is_new(self):
        poly = Poly(["x"], {(1,): 2})
        poly.terms()[(3,)] = 4
        poly.terms().clear()
        self.assert_poly(poly, ["x"], {(1,): 2})
        self.assertIsNot(poly.terms(), poly.terms())


class MadeWronglyTest(unittest.TestCase):
    def assert_bad_name(self, fields, terms, name):
        with self.assertRaises(BadName) as caught:
            Poly(fields, terms)
        self.assertIs(caught.exception.name, name)

    def assert_no_term(self, fields, terms, term):
        with self.assertRaises(NoTerm) as caught:
            Poly(fields, terms)
        self.assertIs(caught.exception.term, term)

    def test_fields_that_are_no_names(self):
        for thing in ANY_OBJECTS:
            self.assert_bad_name([thing], {}, thing)
            self.assert_bad_name(("x", thing), {}, thing)
            self.assert_bad_name(["x", thing, "y", None], {(0,) * 4: 1}, thing)

    def test_fields_that_stood_before(self):
        self.assert_bad_name(["x", "x"], {}, "x")
        self.assert_bad_name(["x", "y", "z", "y", "x"], {}, "y")
        self.assert_bad_name(["x", "x", None], {}, "x")
        self.assert_bad_name(["x", "", "x"], {}, "")

    def test_keys_that_are_no_terms(self):
        for thing in (None, True, False, 0, 1, -1, 1.5, "", "x", "xy", b"xy", (), (1,), (1, 2, 3), (1, -1), (-1, 1),
                      (True, 0), (0, False), (1.0, 2), (1, "2"), (None, 1), ((1, 2),), ((1,), (2,)), ("x", "y"),
                      frozenset([1, 2]), object(), len, range(2)):
            self.assert_no_term(["x", "y"], {thing: 1}, thing)
            self.assert_no_term(["x", "y"], {(3, 3): 1, thing: 0, None: 3, (): 1}, thing)

    def test_keys_without_fields(self):
        for thing in (0, (0,), None, ""):
            self.assert_no_term([], {(): 1, thing: 1}, thing)

    def test_names_come_before_terms(self):
        self.assert_bad_name(["x", "x"], {(1,): 1}, "x")
        self.assert_bad_name(["x", 5], {None: 1}, 5)

    def test_what_is_refused_stays(self):
        fields, terms = ["x"], {(1,): 1, (1, 1): 2}
        self.assert_no_term(fields, terms, list(terms)[1])
        self.assertEqual((fields, terms), (["x"], {(1,): 1, (1, 1): 2}))


class CalculationsTest(PolyTest):
    def test_of_two_polynomials(self):
        for one, two in product(polys(), repeat=2):
            first, second = model(one), model(two)
            minus = {term: -number for term, number in second.items()}
            self.assert_poly(one + two, XY, added(first, second))
            self.assert_poly(one - two, XY, added(first, minus))
            self.assert_poly(one * two, XY, multiplied(first, second))

    def test_with_a_number_on_either_side(self):
        for one, number in product(polys(), (0, 1, -1, 5, THIRTY, Ratio(0), Ratio(4, 2), Ratio(-3, 7), LONG)):
            first, second = model(one), without_zeros({(0, 0): value(number)})
            minus = {term: -worth for term, worth in first.items()}
            negative = {term: -worth for term, worth in second.items()}
            self.assert_poly(one + number, XY, added(first, second))
            self.assert_poly(number + one, XY, added(first, second))
            self.assert_poly(one - number, XY, added(first, negative))
            self.assert_poly(number - one, XY, added(minus, second))
            self.assert_poly(one * number, XY, multiplied(first, second))
            self.assert_poly(number * one, XY, multiplied(first, second))

    def test_the_negative(self):
        for one in polys():
            self.assert_poly(-one, XY, {term: -number for term, number in model(one).items()})

    def test_without_fields(self):
        one, two = Poly([], {(): 3}), Poly((), {(): Ratio(1, 2)})
        self.assert_poly(one + two, [], {(): Fraction(7, 2)})
        self.assert_poly(one - 3, [], {})
        self.assert_poly(2 * two, [], {(): 1})
        self.assert_poly(1 - one * two, [], {(): Fraction(-1, 2)})

    def test_of_three_fields(self):
        x, y, z = [Poly(["x", "y", "z"], {term: 1}) for term in ((1, 0, 0), (0, 1, 0), (0, 0, 1))]
        self.assertEqual(str((x + y - z) * (x - y + z)), "x^2 - y^2 + 2*y*z - z^2")
        self.assertEqual(str((x - 1) * (x + 1) * (y + Ratio(1, 2))), "x^2*y + 1/2*x^2 - y - 1/2")
        self.assertEqual(str(sum([x, y, z])), "x + y + z")

    def test_what_is_calculated_with_stays(self):
        one, two = Poly(XY, {(1, 0): 2, (0, 0): 1}), Poly(XY, {(1, 0): -2, (0, 2): Ratio(1, 3)})
        [one + two, one - two, one * two, -one, one + 1, 1 - one, 2 * one, one == two, str(one), one.at([1, 2])]
        one.put(["a"], [Poly(["a"], {(1,): 1}), Poly(["a"], {})])
        self.assert_poly(one, XY, {(1, 0): 2, (0, 0): 1})
        self.assert_poly(two, XY, {(1, 0): -2, (0, 2): Fraction(1, 3)})

    def test_other_fields(self):
        one = Poly(XY, {(1, 0): 1})
        for other in (Poly(["y", "x"], {(1, 0): 1}), Poly(["x"], {}), Poly([], {}), Poly(["x", "y", "z"], {}),
                      Poly(["x", "z"], {(0, 0): 1})):
            for work in (lambda: one + other, lambda: one - other, lambda: one * other,
                         lambda: other + one, lambda: other - one, lambda: other * one):
                with self.assertRaises(OtherFields):
                    work()

    def test_nothing_else_is_calculated_with(self):
        poly = Poly(["x"], {(1,): 1})
        for thing in (True, False, None, "x", 1.5, [1], (1,), {}, object()):
            for work in (lambda: poly + thing, lambda: poly - thing, lambda: poly * thing,
                         lambda: thing + poly, lambda: thing - poly, lambda: thing * poly):
                with self.assertRaises(TypeError):
                    work()


class EqualPolysTest(unittest.TestCase):
    def assert_equal_is(self, one, two, expected):
        self.assertIs(one == two, expected)
        self.assertIs(two == one, expected)
        self.assertIs(one != two, not expected)

    def test_the_same_fields_and_terms(self):
        self.assert_equal_is(Poly(["x"], {}), Poly(("x",), {(4,): 0}), True)
        self.assert_equal_is(Poly(XY, {(1, 0): 1, (0, 1): 2}), Poly(XY, {(0, 1): Ratio(4, 2), (1, 0): 1}), True)
        for one, two in product(polys(), repeat=2):
            self.assert_equal_is(one, two, model(one) == model(two))
            self.assert_equal_is(one + two, two + one, True)
            self.assert_equal_is(one - two + two, one, True)

    def test_other_fields_and_terms(self):
        self.assert_equal_is(Poly(["x"], {}), Poly(["y"], {}), False)
        self.assert_equal_is(Poly(["x"], {}), Poly([], {}), False)
        self.assert_equal_is(Poly(["x", "y"], {(1, 1): 1}), Poly(["y", "x"], {(1, 1): 1}), False)
        self.assert_equal_is(Poly(["x"], {(1,): 1}), Poly(["x"], {(1,): 2}), False)
        self.assert_equal_is(Poly(["x"], {(1,): 1}), Poly(["x"], {(2,): 1}), False)
        self.assert_equal_is(Poly(["x"], {(1,): 1}), Poly(["x"], {(1,): 1, (0,): 1}), False)

    def test_equal_to_nothing_else(self):
        for poly in (Poly([], {}), Poly([], {(): 1}), Poly(["x"], {(0,): 3}), Poly(["x"], {(0,): Ratio(1, 2)})):
            for thing in [thing for thing in ANY_OBJECTS if not isinstance(thing, Poly)] + [
                    3, Ratio(3), str(poly), poly.terms(), poly.fields]:
                self.assertIs(poly == thing, False)
                self.assertIs(poly != thing, True)
                if thing is not mock.ANY:
                    self.assertIs(thing == poly, False)


class AtTest(PolyTest):
    def test_values(self):
        numbers = [0, 1, -2, THIRTY, Ratio(1, 2), Ratio(-4, 3), LONG]
        for poly, x, y in product(polys(), numbers, numbers):
            expected = value_at(model(poly), [value(x), value(y)])
            self.assert_plain(poly.at([x, y]), expected)
            self.assert_plain(poly.at((x, y)), expected)

    def test_the_fields_in_order(self):
        poly = Poly(["b", "a"], {(1, 0): 10, (0, 1): 1})
        self.assertEqual(poly.at([2, 3]), 23)
        self.assertEqual(Poly(["x"], {(12,): 1}).at([-2]), 4096)
        self.assertEqual(Poly(["x", "y", "z"], {(1, 2, 3): 1}).at([2, 3, 5]), 2 * 9 * 125)

    def test_whole_values_are_integers(self):
        self.assert_plain(Poly(["x"], {(1,): 2}).at([Ratio(1, 2)]), Fraction(1))
        self.assert_plain(Poly(["x"], {(1,): 1}).at([Ratio(6, 3)]), Fraction(2))
        self.assert_plain(Poly(["x"], {}).at([Ratio(1, 2)]), Fraction(0))
        self.assert_plain(Poly(["x"], {(2,): 1, (0,): -1}).at([Ratio(1)]), Fraction(0))

    def test_without_fields(self):
        self.assert_plain(Poly([], {}).at([]), Fraction(0))
        self.assert_plain(Poly([], {(): Ratio(1, 2)}).at(()), Fraction(1, 2))

    def test_the_power_zero_of_zero(self):
        self.assertEqual(Poly(["x", "y"], {(0, 0): 7, (0, 1): 1}).at([0, 0]), 7)

    def test_wrong_counts(self):
        for fields, numbers in ((XY, [1]), (XY, []), (XY, [1, 2, 3]), ([], [1]), (["x"], ()), (["x"], (1, 2))):
            poly = Poly(fields, {(1,) * len(fields): 1})
            with self.assertRaises(WrongCount) as caught:
                poly.at(numbers)
            self.assertEqual(caught.exception.count, len(numbers))

    def test_what_was_passed_stays(self):
        numbers = [Ratio(1, 2), 3]
        Poly(XY, {(2, 2): 1}).at(numbers)
        self.assertEqual(numbers, [Ratio(1, 2), 3])


class PowerTest(unittest.TestCase):
    def test_powers(self):
        poly = Poly(["x", "y", "z"], {(2, 0, 0): 1, (0, 12, 0): -1, (1, 3, 0): Ratio(1, 2)})
        self.assertEqual([poly.power(k) for k in range(3)], [2, 12, 0])

    def test_without_terms(self):
        self.assertEqual([Poly(XY, {(3, 4): 0}).power(k) for k in range(2)], [0, 0])
        self.assertEqual(Poly(["x"], {(0,): 1}).power(0), 0)

    def test_no_such_field(self):
        for fields, k in ((XY, 2), (XY, -1), (XY, 10 ** 30), ([], 0), ([], -1), (["x"], 1), (["x"], None)):
            with self.assertRaises(WrongCount) as caught:
                Poly(fields, {(1,) * len(fields): 1}).power(k)
            self.assertEqual(caught.exception.count, k)


class PutTest(PolyTest):
    def test_polynomials_in_the_place_of_fields(self):
        one = Poly(XY, {(2, 0): 1, (1, 1): Ratio(-1, 2), (0, 0): 3})
        first, second = Poly(["a", "b"], {(1, 0): 1, (0, 0): 1}), Poly(["a", "b"], {(0, 1): 2})
        self.assertEqual(str(one.put(["a", "b"], [first, second])), "a^2 - a*b + 2*a - b + 4")
        self.assertEqual(str(one.put(("a", "b"), (second, first))), "-a*b + 4*b^2 - b + 3")

    def test_values_of_what_was_put(self):
        polynomials = polys()
        for k, poly in enumerate(polynomials):
            first, second = polynomials[k - 1], polynomials[k - 2]
            put = poly.put(XY, [first, second])
            for numbers in ([0, 0], [1, -2], [Ratio(1, 2), 3], [LONG, -1]):
                self.assertEqual(put.at(numbers), poly.at([first.at(numbers), second.at(numbers)]))
                self.assertEqual(put.fields, XY)

    def test_the_same_fields_in_another_order(self):
        poly = Poly(XY, {(2, 1): 1})
        fields = ["y", "x"]
        x, y = Poly(fields, {(0, 1): 1}), Poly(fields, {(1, 0): 1})
        self.assert_poly(poly.put(fields, [x, y]), fields, {(1, 2): 1})
        self.assert_poly(poly.put(fields, [y, x]), fields, {(2, 1): 1})

    def test_no_fields_and_no_terms(self):
        self.assert_poly(Poly([], {(): 5}).put(["x"], []), ["x"], {(0,): 5})
        self.assert_poly(Poly([], {}).put([], ()), [], {})
        self.assert_poly(Poly(["x"], {(2,): 1}).put([], [Poly([], {(): 3})]), [], {(): 9})
        self.assert_poly(Poly(["x"], {}).put(["a"], [Poly(["a"], {(1,): 1})]), ["a"], {})
        self.assert_poly(Poly(["x"], {(2,): 1, (0,): 4}).put(["a"], [Poly(["a"], {})]), ["a"], {(0,): 4})

    def test_great_powers(self):
        put = Poly(["x"], {(12,): 1}).put(["a"], [Poly(["a"], {(1,): 1, (0,): 1})])
        self.assertEqual(list(put.terms().values()), [1, 12, 66, 220, 495, 792, 924, 792, 495, 220, 66, 12, 1])

    def test_wrong_counts(self):
        a = Poly(["a"], {(1,): 1})
        for fields, put in ((XY, [a]), (XY, []), (XY, [a, a, a]), ([], [a]), (["x"], ()), (["x"], (a, a))):
            with self.assertRaises(WrongCount) as caught:
                Poly(fields, {}).put(["a"], put)
            self.assertEqual(caught.exception.count, len(put))

    def test_other_fields(self):
        good, poly = Poly(["a", "b"], {(1, 0): 1}), Poly(XY, {})
        for other in (Poly(["b", "a"], {}), Poly(["a"], {}), Poly([], {}), Poly(XY, {}), Poly(["a", "b", "c"], {})):
            for put in ([other, good], [good, other], (other, other)):
                with self.assertRaises(OtherFields):
                    poly.put(["a", "b"], put)

    def test_counts_come_before_fields(self):
        with self.assertRaises(WrongCount) as caught:
            Poly(XY, {}).put(["a"], [Poly(["b"], {})])
        self.assertEqual(caught.exception.count, 1)

    def test_what_was_passed_stays(self):
        fields, put = ["a"], [Poly(["a"], {(1,): 2})]
        found = Poly(["x"], {(2,): 1}).put(fields, put)
        self.assertEqual((fields, put), (["a"], [Poly(["a"], {(1,): 2})]))
        fields.append("b")
        put.clear()
        self.assert_poly(found, ["a"], {(2,): 4})


class TextTest(unittest.TestCase):
    def assert_text(self, fields, terms, text):
        before = copy.copy(terms)
        self.assertEqual(str(Poly(fields, terms)), text)
        self.assertEqual(terms, before)

    def test_no_terms(self):
        self.assert_text(["x"], {}, "0")
        self.assert_text([], {}, "0")
        self.assert_text(["x"], {(1,): 0}, "0")

    def test_numbers(self):
        for number, text in ((1, "1"), (-1, "-1"), (7, "7"), (Ratio(1, 2), "1/2"), (Ratio(-7, 3), "-7/3"),
                             (Ratio(4, 2), "2"), (THIRTY, "9" * 30)):
            self.assert_text([], {(): number}, text)
            self.assert_text(["x"], {(0,): number}, text)

    def test_the_number_one_is_left_out(self):
        self.assert_text(["x"], {(1,): 1}, "x")
        self.assert_text(["x"], {(1,): -1}, "-x")
        self.assert_text(["x"], {(1,): Ratio(2, 2), (0,): -1}, "x - 1")
        self.assert_text(["x"], {(1,): 11, (0,): 1}, "11*x + 1")
        self.assert_text(["x"], {(2,): Ratio(1, 3), (1,): Ratio(-1, 3)}, "1/3*x^2 - 1/3*x")

    def test_powers(self):
        self.assert_text(["x", "y"], {(2, 1): 3}, "3*x^2*y")
        self.assert_text(["x", "y"], {(0, 12): -1}, "-y^12")
        self.assert_text(["x", "y"], {(1, 10): Ratio(-1, 2)}, "-1/2*x*y^10")

    def test_the_terms_in_order(self):
        self.assert_text(["b", "a"], {(0, 0): 5, (0, 1): -4, (0, 2): 3, (1, 0): -2, (1, 1): 1},
                         "b*a - 2*b + 3*a^2 - 4*a + 5")
        self.assert_text(["x"], {(10,): -1, (9,): -1, (2,): -1}, "-x^10 - x^9 - x^2")
        self.assert_text(["price", "many"], {(0, 1): Ratio(-2, 3), (1, 0): Ratio(5, 2)}, "5/2*price - 2/3*many")


if __name__ == "__main__":
    unittest.main()
