"""Points [28] to [30]: recurrence, far, parting_rests."""

import random
import time
import unittest
from fractions import Fraction
from unittest import mock

from reckoning import Model, Span, drawn_model, drawn_row, drawn_rows, grid_lists, joined_powers, value

from everylist import again
from everylist.again import EXPONENTS, far, parting_rests, recurrence
from everylist.built import product, running, scaled
from everylist.errors import BadRow, ListError, NoMany, NoModulus, NoPrime, NotWhole, UnlikeRows
from everylist.loops import Loop
from everylist.polys import Poly
from everylist.ratios import Ratio
from everylist.rows import Rows
from everylist.texts import loop_text

THIRTY = 10 ** 30 - 1
NUMBERS = Rows([["row", ["x"]]])
HORNER = Loop(NUMBERS, {"h": 0}, {"row": {"h": "10*h + x"}}, "h")
STEPS = Rows([["go", []]])
FIBONACCI = Loop(STEPS, {"a": 0, "b": 1}, {"go": {"a": "b", "b": "a + b"}}, "a")
HALVES = Loop(NUMBERS, {"a": 1}, {"row": {"a": "1/2*a + x"}}, "a")


class AgainTest(unittest.TestCase):
    def assert_error(self, error, attributes, function, *given):
        with self.assertRaises(error) as caught:
            function(*given)
        self.assertIsInstance(caught.exception, ListError)
        for name, expected in attributes.items():
            self.assertEqual(getattr(caught.exception, name), expected)


class RecurrenceTest(AgainTest):
    def test_the_example_of_the_document(self):
        told = [recurrence(HORNER, [("row", 1)]), far(HORNER, [([("row", 7)], 10 ** 30)], 9)]
        self.assertEqual(repr(told), "[[-10, 11], 7]")

    def test_small_blocks(self):
        for loop, block, expected in (
                (FIBONACCI, [("go",)], "[1, 1]"), (FIBONACCI, [("go",)] * 2, "[-1, 3]"), (FIBONACCI, [], "[]"),
                (HORNER, [], "[]"), (HORNER, [("row", 0)], "[]"), (HORNER, [("row", 0), ("row", 1)], "[-100, 101]"),
                (Loop(NUMBERS, {}, {}, "0"), [("row", 1)], "[]"), (Loop(NUMBERS, {}, {}, "3"), [("row", 1)], "[1]"),
                (Loop(NUMBERS, {"n": 0}, {"row": {"n": "n + 1"}}, "n"), [("row", 5)], "[-1, 2]"),
                (Loop(NUMBERS, {"n": 0}, {"row": {"n": "n + 1"}}, "n"), [], "[]"),
                (Loop(NUMBERS, {"n": 4}, {"row": {"n": "n + 1"}}, "n"), (), "[1]"),
                (Loop(NUMBERS, {"n": 4}, {"row": {"n": "0"}}, "n"), [["row", 2]], "[0]"),
                (Loop(NUMBERS, {"n": 4}, {"row": {"n": "2"}}, "n"), [["row", 2]], "[0, 1]"),
                (Loop(NUMBERS, {"a": 1, "b": 1}, {"row": {"a": "b", "b": "0"}}, "a"), [("row", 1)], "[0, 0]"),
                (Loop(NUMBERS, {"n": 3}, {"row": {"n": "x*n"}}, "n"), [("row", 2), ("row", 3)], "[6]")):
            self.assertEqual(repr(recurrence(loop, block)), expected)

    def test_ratios(self):
        found = recurrence(HALVES, [("row", 1)])
        self.assertEqual([str(number) for number in found], ["-1/2", "3/2"])
        found = recurrence(HALVES, [("row", Ratio(1, 3)), ("row", 5)])
        self.assertEqual([str(number) for number in found], ["-1/4", "5/4"])
        found = recurrence(Loop(NUMBERS, {"n": 3}, {"row": {"n": "x*n"}}, "n"), [("row", Ratio(2, 3)), ("row", 3)])
        self.assertEqual(repr(found), "[2]")

    def test_drawn_loops(self):
        source = random.Random(2801)
        seen = {}
        for _ in range(150):
            kinds = source.choice([[("go", [])], [("row", ["x"])], [("b", ["x", "y"]), ("go", [])]])
            model = drawn_model(source, kinds, ["a", "b", "c", "d"][:source.randint(0, 4)], 2)
            block = drawn_rows(source, kinds, 3)
            found = recurrence(model.loop(), block)
            told, numbers = [], dict(model.starts)
            for _ in range(16):
                told.append(model.tell(numbers))
                numbers = model.behind(block, numbers)
            many = len(found)
            self.assertLessEqual(many, len(model.starts) + 1)
            for n in range(16 - many):
                parts = [value(number) * told[n + k] for k, number in enumerate(found)]
                self.assertEqual(sum(parts, Fraction(0)), told[n + many])
            # It is the shortest one: so many numbers in a row are no sums of those before them.
            span = Span()
            self.assertTrue(all([span.take(told[k:k + 8]) for k in range(many)]))
            for number in found:
                self.assertIs(type(number), int if value(number).denominator == 1 else Ratio)
            seen[many] = seen.get(many, 0) + 1
        self.assertGreaterEqual(set(seen), {0, 1, 2, 3, 4})

    def test_without_and_with_one_prime(self):
        source = random.Random(2802)
        for _ in range(60):
            kinds = [("b", ["x", "y"]), ("go", [])]
            loop = drawn_model(source, kinds, ["a", "b", "c", "d"], 2).loop()
            block = drawn_rows(source, kinds, 3)
            expected = recurrence(loop, block)
            for exponents in ((), (2,), (127,), (3, 5, 7)):
                with mock.patch("everylist.again.EXPONENTS", exponents):
                    self.assertEqual(recurrence(loop, block), expected)

    def test_small_numbers_are_found_by_the_first_prime(self):
        for loop, block in ((HORNER, [("row", 1)]), (FIBONACCI, [("go",)] * 2), (FIBONACCI, [("go",)] * 80)):
            with mock.patch("everylist.again._sums_by", wraps=again._sums_by) as sums_by:
                expected = recurrence(loop, block)
            self.assertEqual([call.args[0] for call in sums_by.call_args_list], [2 ** 127 - 1])
            with mock.patch("everylist.again.EXPONENTS", ()):
                self.assertEqual(recurrence(loop, block), expected)

    def test_the_exponents_tell_primes(self):
        for exponent in EXPONENTS[:3]:
            prime, rest = 2 ** exponent - 1, 4
            for _ in range(exponent - 2):
                rest = (rest * rest - 2) % prime
            self.assertEqual(rest, 0)

    def test_bad_rows(self):
        for block, index in (([("row", 1), ("row",)], 1), ([None], 0), ([("row", 1)] * 20 + [("row", True)], 20),
                             ([("now", 1), None], 0), ([mock.ANY], 0), ([("row", 1), "row"], 1), ([("row", 1.5)], 0)):
            self.assert_error(BadRow, {"index": index}, recurrence, HORNER, block)

    def test_soon_and_long_numbers(self):
        begun = time.monotonic()
        names = "abcdefghijkl"
        changes = {"row": {name: f"{place + 2}*{name} + x*{other}"
                           for place, (name, other) in enumerate(zip(names, names[1:] + names[0]))}}
        loop = Loop(NUMBERS, {name: 1 for name in names}, changes, "a")
        self.assertEqual(len(recurrence(loop, [("row", THIRTY), ("row", 2)] * 5)), 12)
        changes = {"a": f"{THIRTY}/{THIRTY - 1}*b + x", "b": f"1/{THIRTY - 2}*c - a", "c": f"{THIRTY}*x^2*d",
                   "d": "a + x"}
        ratios = Loop(NUMBERS, {"a": 1, "b": Ratio(1, THIRTY), "c": 2, "d": Ratio(THIRTY, 7)}, {"row": changes}, "a")
        self.assertEqual(len(recurrence(ratios, [("row", Ratio(THIRTY, THIRTY - 4))] * 9)), 5)
        # The registers but for the 1 depend on those two rows before: of 10 rows two numbers are enough for them.
        self.assertEqual(len(recurrence(ratios, [("row", Ratio(THIRTY, THIRTY - 4))] * 10)), 3)
        self.assertLess(time.monotonic() - begun, 30)

    def test_what_is_returned_is_new_and_all_stays(self):
        before, block = loop_text(HORNER), [["row", 1]]
        found = recurrence(HORNER, block)
        found.append(7)
        self.assertEqual(recurrence(HORNER, block), [-10, 11])
        self.assertEqual(block, [["row", 1]])
        self.assertEqual(loop_text(HORNER), before)


class FarTest(AgainTest):
    def test_small_lists(self):
        self.assertEqual(far(HORNER, [([("row", 7)], 10 ** 30)], 9), 7)
        self.assertEqual(far(HORNER, [([("row", 1), ("row", 2)], 2), ([("row", 3)], 1)], 10 ** 6), 12123)
        self.assertEqual(far(HORNER, [[(["row", 1],), 3], ([("row", 5)], 0)], 1000), 111)
        self.assertEqual(far(FIBONACCI, [([("go",)], 10)], 1000), 55)
        for modulus in (1, 2, 7, 10 ** 30):
            self.assertEqual(far(HORNER, [], modulus), 0)
            self.assertEqual(far(Loop(NUMBERS, {}, {}, "-1"), [([], 10 ** 30)], modulus), modulus - 1)
            self.assertEqual(far(HORNER, [([], 10 ** 30), ([("row", -1)], 1)], modulus), modulus - 1)
            self.assertEqual(far(HORNER, [([("row", 5)], 0), ([], 0)], modulus), 0)

    def test_lists_written_out(self):
        source = random.Random(2901)
        for _ in range(120):
            kinds = source.choice([[("go", [])], [("row", ["x"])], [("b", ["x", "y"]), ("go", [])]])
            model = drawn_model(source, kinds, ["a", "b", "c"][:source.randint(0, 3)], 3, ratios=False)
            blocks = [(drawn_rows(source, kinds, 3, False), source.randint(0, 6)) for _ in range(source.randint(0, 3))]
            modulus = source.choice([1, 2, 3, 10, 97, 1000, 10 ** 30])
            told = model.run([row for block, many in blocks for _ in range(many) for row in block])
            found = far(model.loop(), blocks, modulus)
            self.assertEqual(found, told % modulus)
            self.assertIs(type(found), int)

    def test_large_counts_by_a_reckoning_of_rests(self):
        # The powers of 2 and of 10, and the numbers of Fibonacci by doubling.
        power = Loop(STEPS, {"a": 1}, {"go": {"a": "2*a"}}, "a")
        for modulus in (1, 3, 10 ** 9 + 7, THIRTY, 10 ** 30):
            for many in (0, 1, 5, 10 ** 18, 10 ** 30 - 1, 10 ** 30):
                self.assertEqual(far(power, [([("go",)], many)], modulus), pow(2, many, modulus))
                blocks = [([("go",)] * 3, many), ([("go",)], 4)]
                self.assertEqual(far(power, blocks, modulus), pow(2, 3 * many + 4, modulus))
                expected = self.fibonacci(many, modulus)[0] % modulus
                self.assertEqual(far(FIBONACCI, [([("go",)], many)], modulus), expected)

    def fibonacci(self, many, modulus):
        if many == 0:
            return 0, 1
        one, two = self.fibonacci(many // 2, modulus)
        both = one * (2 * two - one) % modulus, (one * one + two * two) % modulus
        return (both[1], sum(both) % modulus) if many % 2 else both

    def test_loops_that_are_not_whole(self):
        for loop in (HALVES, Loop(NUMBERS, {"a": Ratio(1, 2)}, {}, "a"), Loop(NUMBERS, {"a": 1}, {}, "a + 1/2"),
                     Loop(NUMBERS, {"a": 1}, {}, "1/2*a"), Loop(NUMBERS, {"a": 1}, {"row": {"a": "a + 1/3*x^2"}}, "0")):
            for blocks in ([], [([("row", 1)], 2)], [([None], -1)]):
                for modulus in (7, 0, -3):
                    self.assert_error(NotWhole, {}, far, loop, blocks, modulus)
        whole = Loop(NUMBERS, {"a": Ratio(4, 2)}, {"row": {"a": "6/3*a + 1/2*x + 1/2*x"}}, "a")
        self.assertEqual(far(whole, [([("row", 3)], 1)], 100), 7)

    def test_errors_and_their_order(self):
        good = ([("row", 1)], 1)
        for modulus in (0, -1, -10 ** 30):
            self.assert_error(NoModulus, {"modulus": modulus}, far, HORNER, [good], modulus)
            self.assert_error(NoModulus, {"modulus": modulus}, far, HORNER, [([None], -1)], modulus)
        for blocks, error, attributes in (
                ([([("row", 1), None], 1)], BadRow, {"index": 1}), ([good, ([("row",)], 0)], BadRow, {"index": 0}),
                ([([("row", Ratio(1, 2))], 1)], NotWhole, {}), ([([("row", Ratio(4, 2))], 0)], NotWhole, {}),
                ([good, ([("row", 1)], -1)], NoMany, {"many": -1}), ([([], -7)], NoMany, {"many": -7}),
                # Of one block the row is told first, then the number, then how many.
                ([([("row", Ratio(1, 2)), ("now",)], -1)], BadRow, {"index": 1}),
                ([([("row", Ratio(1, 2))], -1)], NotWhole, {}),
                # Of several blocks the first one that is wrong.
                ([([("row", 1)], -2), ([None], 1)], NoMany, {"many": -2}),
                ([([("row", Ratio(1, 2))], 1), ([None], 1)], NotWhole, {}),
                ([([("row", 1)], -2), ([("row", Ratio(1, 2))], -3)], NoMany, {"many": -2})):
            self.assert_error(error, attributes, far, HORNER, blocks, 10)

    def test_arguments_stay(self):
        before, blocks = loop_text(HORNER), [[[["row", 3]], 5]]
        self.assertEqual(far(HORNER, blocks, 1000), 333)
        self.assertEqual(blocks, [[[["row", 3]], 5]])
        self.assertEqual(loop_text(HORNER), before)

    def test_soon(self):
        begun = time.monotonic()
        names = "abcdefghijkl"
        changes = {"row": {name: f"{THIRTY - place}*{name} + x^2*{other} - {THIRTY}*x"
                           for place, (name, other) in enumerate(zip(names, names[1:] + names[0]))}}
        loop = Loop(NUMBERS, {name: THIRTY for name in names}, changes, f"{THIRTY}*a + {THIRTY}")
        blocks = [([("row", THIRTY), ("row", -THIRTY)] * 5, 10 ** 30 - many) for many in range(5)]
        self.assertEqual(far(loop, blocks, 1), 0)
        found = far(loop, blocks, 10 ** 30)
        self.assertEqual(found % 1000, far(loop, blocks, 1000))
        self.assertLess(time.monotonic() - begun, 30)


class PartingRestsTest(AgainTest):
    def test_small_loops(self):
        zero = Loop(NUMBERS, {}, {}, "0")
        for change, prime, expected in (
                ("s + x", 2, [("row", 1)]), ("s + 2*x", 2, None), ("s + 2*x", 3, [("row", 1)]),
                ("s + x^2 - x", 2, None), ("s + x^2 - x", 3, [("row", 2)]), ("s + x^3 - x", 3, None),
                ("s + x^3 - x", 2, None),
                ("s + x^3 - x", 5, [("row", 2)]), ("s + x^5 - x", 5, None), ("s + x^5 - x", 7, [("row", 2)]),
                ("s + x^4 - x^2", 3, None), ("s + x^6", 7, [("row", 1)]), ("s + x^6 - 1", 7, [("row", 0)]),
                ("s + x^7 - 6*x^6 - x + 6", 7, [("row", 0)]), ("s + 7", 7, None), ("s + 1", 997, [("row", 0)]),
                ("997*x + 0*s", 997, None)):
            loop = Loop(NUMBERS, {"s": 0}, {"row": {"s": change}}, "s")
            self.assertEqual(parting_rests(loop, zero, prime), expected, change)
            self.assertEqual(parting_rests(zero, loop, prime), expected, change)

    def test_numbers_below_the_prime(self):
        # The difference is 0 for the numbers 0 to 4 and not 0 for 5, but by 5 it is 0 for all.
        zero = Loop(NUMBERS, {}, {}, "0")
        loop = Loop(NUMBERS, {"s": 0}, {"row": {"s": "x^5 - 10*x^4 + 35*x^3 - 50*x^2 + 24*x"}}, "s")
        self.assertIsNone(parting_rests(loop, zero, 5))
        self.assertIsNone(parting_rests(loop, zero, 2))
        self.assertEqual(parting_rests(loop, zero, 7), [("row", 5)])

    def test_the_empty_list_and_the_same_object(self):
        one, other = Loop(NUMBERS, {}, {}, "3"), Loop(NUMBERS, {"a": 8}, {}, "a")
        self.assertIsNone(parting_rests(one, other, 5))
        self.assertEqual(parting_rests(one, other, 3), [])
        self.assertIsNone(parting_rests(HORNER, HORNER, 7))
        none = Rows([])
        self.assertIsNone(parting_rests(Loop(none, {}, {}, "1"), Loop(none, {"a": 3}, {}, "a"), 2))

    def test_multiples_of_the_prime(self):
        for prime in (2, 3, 5, 997):
            more = Loop(NUMBERS, {"h": 0}, {"row": {"h": f"{10 + prime}*h + {1 + prime}*x - {prime * prime}"}},
                        f"{1 - prime}*h + {prime}")
            self.assertIsNone(parting_rests(HORNER, more, prime))
            self.assertIsNone(parting_rests(scaled(HORNER, prime), Loop(NUMBERS, {}, {}, "0"), prime))
            self.assertIsNotNone(parting_rests(HORNER, more, 7))

    def test_the_grid_gone_through(self):
        source = random.Random(3001)
        seen = {}
        for _ in range(150):
            kinds, names = source.choice([([("go", [])], "abc"), ([("row", ["x"])], "ab"), ([("b", ["x", "y"])], "a"),
                                          ([("up", []), ("row", ["x"])], "ab"), ([], "a")])
            power = source.choice([2, 3, 4])
            one = drawn_model(source, kinds, list(names), 2, power, ratios=False)
            prime = source.choice([2, 2, 3, 3, 5])
            other = self.near(source, one, prime)
            tops = {kind: [min(top, prime - 1) for top in one_kind]
                    for kind, one_kind in joined_powers([one, other]).items()}
            expected = None
            for rows in grid_lists(kinds, tops, 3):
                if (one.run(rows) - other.run(rows)) % prime != 0:
                    expected = rows
                    break
            found = parting_rests(one.loop(), other.loop(), prime)
            if found is not None and len(found) > 3:
                self.assertIsNone(expected)
                self.assertNotEqual((one.run(found) - other.run(found)) % prime, 0)
            else:
                self.assertEqual(found, expected)
            if found is None:
                for _ in range(20):
                    rows = drawn_rows(source, kinds, 6, False)
                    self.assertEqual((one.run(rows) - other.run(rows)) % prime, 0)
            else:
                self.assertIs(type(found), list)
                self.assertEqual([type(row) for row in found], [tuple] * len(found))
            seen[None if found is None else len(found)] = True
        self.assertGreaterEqual(set(seen), {None, 0, 1, 2})

    def near(self, source, model, prime):
        """A model that differs by multiples of the prime and at times by something more."""
        changes = {kind: {name: {term: number + prime * source.randint(-1, 1) for term, number in terms.items()}
                          for name, terms in sums.items()} for kind, sums in model.changes.items()}
        told = {name: number + prime * source.randint(-1, 1) for name, number in model.told.items()}
        starts = {name: number + prime * source.randint(-1, 1) for name, number in model.starts.items()}
        if model.kinds and source.random() < 0.6:
            kind, fields = source.choice(model.kinds)
            powers = tuple([source.randint(0, 2) for _ in fields])
            term = (source.choice([*starts, "1"]), powers)
            sums = changes[kind][source.choice(list(starts))]
            sums[term] = sums.get(term, 0) + source.randint(1, 2)
        if source.random() < 0.1:
            told["1"] = told.get("1", 0) + 1
        return Model(model.kinds, starts, changes, told)

    def test_numbers_that_are_no_primes(self):
        for number in (0, 1, -1, -2, -7, 4, 6, 9, 15, 25, 91, 121, 561, 961, 999, 10 ** 6):
            self.assert_error(NoPrime, {"number": number}, parting_rests, HORNER, HORNER, number)
        for number in range(2, 1000):
            if all([number % divisor for divisor in range(2, number)]):
                self.assertIsNone(parting_rests(HORNER, HORNER, number))
            else:
                self.assert_error(NoPrime, {"number": number}, parting_rests, HORNER, HORNER, number)

    def test_errors_and_their_order(self):
        other = Loop(Rows([["row", ["y"]]]), {"a": Ratio(1, 2)}, {}, "a")
        for one, two, prime, error in (
                (HORNER, other, 4, UnlikeRows), (other, HORNER, 2, UnlikeRows), (HALVES, HORNER, 4, NotWhole),
                (HORNER, HALVES, 1, NotWhole), (HORNER, HALVES, 2, NotWhole), (HALVES, HALVES, 7, NotWhole)):
            self.assert_error(error, {}, parting_rests, one, two, prime)

    def test_what_is_returned_is_new_and_loops_stay(self):
        zero = Loop(NUMBERS, {}, {}, "0")
        before = [loop_text(HORNER), loop_text(zero)]
        found = parting_rests(HORNER, zero, 3)
        found.append(1)
        self.assertEqual(parting_rests(HORNER, zero, 3), [("row", 1)])
        self.assertEqual([loop_text(HORNER), loop_text(zero)], before)

    def test_built_loops_and_soon(self):
        begun = time.monotonic()
        self.assertIsNone(parting_rests(product(HORNER, FIVE), product(FIVE, HORNER), 997))
        self.assertIsNone(parting_rests(running(running(HORNER)), running(running(FIVE)), 5))
        rows = Rows([[kind, ["x", "y", "z"]] for kind in ("a", "b", "c", "d")])
        names = "klmnop"
        changes = {kind: {name: f"{place + 1}*x^2*y^2*z^2*{name} + x*y*{other}"
                          for place, (name, other) in enumerate(zip(names, names[1:] + "k"))} for kind in rows.kinds()}
        one = Loop(rows, {name: 1 for name in names}, changes, "k")
        more = {kind: {name: text + " + 991*x^2" for name, text in sums.items()} for kind, sums in changes.items()}
        other = Loop(rows, {name: 1 for name in names}, more, "k")
        self.assertIsNone(parting_rests(one, other, 991))
        self.assertEqual(parting_rests(one, other, 2), [("a", 1, 0, 0)])
        self.assertLess(time.monotonic() - begun, 30)


FIVE = Loop(NUMBERS, {"h": 5}, {"row": {"h": "5*h + x"}}, "h")


class DrawnTest(unittest.TestCase):
    def test_rows_of_integers(self):
        source = random.Random(3002)
        for _ in range(20):
            self.assertTrue(all([isinstance(number, int) for number in drawn_row(source, [("b", ["x"])], False)[1:]]))
        self.assertEqual(str(Poly([], {})), "0")


if __name__ == "__main__":
    unittest.main()
