"""Points [13] and [14]: Parting, parting, alike, always."""

import random
import time
import unittest
from fractions import Fraction

from reckoning import (Model, drawn_model, drawn_rows, first_unlike, grid_lists, grid_rows, joined_powers, mixed_model,
                       number_of, value)

from everylist.comparing import Parting, alike, always, parting
from everylist.errors import ListError, UnlikeRows
from everylist.loops import Loop
from everylist.ratios import Ratio
from everylist.rows import Rows
from everylist.texts import loop_text, read_loop

THIRTY = 10 ** 30 - 1
NUMBERS = Rows([["row", ["x"]]])
STEPS = Rows([["go", []]])
SUMS = Loop(NUMBERS, {"s": 0, "p": 0, "q": 0}, {"row": {"s": "s + x", "p": "p + x*s", "q": "q + x^2"}}, "p")
LATE = Loop(NUMBERS, {"s": 0, "p": 0}, {"row": {"s": "s + x", "p": "p + x*s + x^2"}}, "p")
# Kinds whose grids have few rows, with none, one and several fields.
SMALL = (
    ([], 2, 2), ([("go", [])], 3, 3), ([("up", []), ("down", [])], 2, 3), ([("row", ["x"])], 2, 2),
    ([("row", ["x"]), ("note", [])], 1, 2), ([("b", ["x", "y"])], 1, 2), ([("b", ["x"]), ("a", ["x"])], 1, 2),
)


def powers_of_numbers(own, numbers, sign, kinds=(("go", ()),), power=0):
    """A loop whose registers hold the powers of its own ones of some numbers, those of 1 being 1.

    It tells their part of the divided difference of n^k over all the numbers, k being how many rows there are: the sum
    of all parts is 0 for each k up to their number less 2, and then 1.
    """
    told, starts, changes = {}, {}, {kind: {} for kind, _ in kinds}
    for n in own:
        below = Fraction(1)
        for other in numbers:
            below *= n - other if n != other else 1
        name = "1" if n == 1 else chr(96 + n)
        told[name] = sign / below
        if n != 1:
            starts[name] = 1
            for kind, fields in kinds:
                changes[kind][name] = {(name, (power,) * len(fields)): n}
    return Model(kinds, starts, changes, told).loop()


class ComparingTest(unittest.TestCase):
    def assert_parting(self, found, rows, tells):
        self.assertIs(type(found), Parting)
        self.assertEqual(found.rows, rows)
        self.assertIs(type(found.rows), list)
        for row in found.rows:
            self.assertIs(type(row), tuple)
            self.assertEqual([type(number) for number in row[1:]], [int] * (len(row) - 1))
        self.assertIs(type(found.tells), tuple)
        self.assertEqual(len(found.tells), 2)
        for told, expected in zip(found.tells, tells):
            self.assertEqual(value(told), expected)
            self.assertIs(type(told), int if Fraction(expected).denominator == 1 else Ratio)


class PartingTest(ComparingTest):
    def test_the_example_of_the_document(self):
        self.assertEqual(repr([parting(SUMS, LATE).rows, parting(SUMS, LATE).tells, alike(SUMS, SUMS)]),
                         "[[('row', 1)], (0, 1), True]")

    def test_alike_loops(self):
        square = Loop(NUMBERS, {"t": 0, "q": 0}, {"row": {"t": "t + x", "q": "q + x^2"}}, "q")
        self.assertIsNone(parting(Loop(NUMBERS, {"q": 0}, {"row": {"q": "x*x + q"}}, "q"), square))
        self.assertIs(alike(square, square), True)
        self.assertIs(alike(SUMS, LATE), False)
        # The square of the sum is twice the products and the squares.
        whole = Loop(NUMBERS, {"s": 0, "w": 0}, {"row": {"s": "s + x", "w": "w + 2*x*s + x^2"}}, "w")
        parts = Loop(NUMBERS, {"s": 0, "p": 0, "q": 0}, {"row": {"s": "s + x", "p": "p + x*s", "q": "q + x^2"}},
                     "2*p + q")
        self.assertIsNone(parting(whole, parts))
        self.assertIs(alike(parts, whole), True)

    def test_the_empty_list_parts(self):
        half = Fraction(1, 2)
        for one, other, tells in (("1", "2", (1, 2)), ("1/2", "-1/2", (half, -half)), ("0", "a", (0, 7))):
            loops = [Loop(NUMBERS, {"a": 7}, {}, told) for told in (one, other)]
            self.assert_parting(parting(*loops), [], tells)
            self.assert_parting(parting(*loops[::-1]), [], tells[::-1])

    def test_loops_without_registers_and_without_kinds(self):
        for rows in (Rows([]), NUMBERS):
            self.assertIsNone(parting(Loop(rows, {}, {}, "3"), Loop(rows, {}, {}, "3")))
            self.assert_parting(parting(Loop(rows, {}, {}, "3"), Loop(rows, {}, {}, "4")), [], (3, 4))
            self.assertIsNone(parting(Loop(rows, {}, {}, "3"), Loop(rows, {"a": 1, "b": 2}, {}, "a + b")))
        # Without kinds there is the empty list alone.
        self.assertTrue(alike(Loop(Rows([]), {"a": 1}, {}, "a"), Loop(Rows([]), {"b": Ratio(1, 2)}, {}, "2*b")))

    def test_the_first_list_by_the_order_of_rows(self):
        rows = Rows([["z", ["y", "x"]], ["a", []]])
        zero = Loop(rows, {}, {}, "0")
        for change, kind, expected in (
                ("s + x", "z", [("z", 0, 1)]), ("s + y", "z", [("z", 1, 0)]), ("s + x*y", "z", [("z", 1, 1)]),
                ("s + x^2 - x", "z", [("z", 0, 2)]), ("s + y^2*x - y*x", "z", [("z", 2, 1)]),
                ("s + 1", "z", [("z", 0, 0)]), ("s + 1", "a", [("a",)]), ("s + x + y - 1", "z", [("z", 0, 0)]),
                ("s + x*y - 2*y", "z", [("z", 1, 0)]), ("s + x*y - y", "z", [("z", 1, 0)]),
                ("s + x^2 - 3*x + 2 - y", "z", [("z", 0, 0)]), ("s + x*y^2 - 3*x*y + 2*x", "z", [("z", 0, 1)])):
            loop = Loop(rows, {"s": 0}, {kind: {"s": change}}, "s")
            self.assertEqual(parting(loop, zero).rows, expected, change)
            self.assertEqual(parting(zero, loop).rows, expected, change)

    def test_fewer_rows_come_first(self):
        # Two rows of the kind a part them; but one row of the later kind does, too.
        rows = Rows([["a", []], ["b", []]])
        loop = Loop(rows, {"s": 0, "t": 0}, {"a": {"s": "t", "t": "1"}, "b": {"s": "s + 1"}}, "s")
        self.assert_parting(parting(loop, Loop(rows, {}, {}, "0")), [("b",)], (1, 0))
        loop = Loop(rows, {"s": 0, "t": 0}, {"a": {"s": "t", "t": "1"}, "b": {"s": "t"}}, "s")
        self.assert_parting(parting(Loop(rows, {}, {}, "0"), loop), [("a",), ("a",)], (0, 1))

    def test_the_grid_has_the_greater_power_of_both(self):
        one = Loop(NUMBERS, {"s": 0}, {"row": {"s": "s + x"}}, "s")
        other = Loop(NUMBERS, {"s": 0}, {"row": {"s": "s + x^2"}}, "s")
        self.assert_parting(parting(one, other), [("row", 2)], (2, 4))
        self.assert_parting(parting(other, one), [("row", 2)], (4, 2))

    def test_parted_only_by_lists_of_as_many_rows_as_both_have_registers(self):
        one = Loop(STEPS, {"a": 2}, {"go": {"a": "2*a"}}, "a")
        other = Loop(STEPS, {"b": 1}, {"go": {"b": "3*b"}}, "b + 1")
        self.assert_parting(parting(one, other), [("go",)] * 2, (8, 10))
        for half in (1, 2, 3, 4, 6):
            numbers = list(range(1, 2 * half + 2))
            one = powers_of_numbers(numbers[1:half + 1], numbers, 1)
            other = powers_of_numbers([1, *numbers[half + 1:]], numbers, -1)
            self.assertEqual([len(one.registers()), len(other.registers())], [half, half])
            found = parting(one, other)
            self.assertEqual(found.rows, [("go",)] * (2 * half))
            self.assertEqual(value(found.tells[0]) - value(found.tells[1]), 1)

    def test_long_first_lists_over_large_grids_soon(self):
        kinds = [(kind, ("x", "y", "z")) for kind in ("a", "b", "c", "d")]
        numbers = list(range(2, 14))
        begun = time.monotonic()
        found = parting(powers_of_numbers(numbers[:6], numbers, 1, kinds, 2),
                        powers_of_numbers(numbers[6:], numbers, -1, kinds, 2))
        self.assertEqual(found.rows, [("a", 1, 1, 1)] * 11)
        self.assertEqual(value(found.tells[0]) - value(found.tells[1]), 1)
        self.assertLess(time.monotonic() - begun, 20)

    def test_the_grid_gone_through(self):
        source = random.Random(1301)
        seen = {None: 0}
        for _ in range(40):
            for kinds, many, more in SMALL:
                one = drawn_model(source, kinds, ["a", "b", "c"][:source.randint(0, many)], 2)
                other = drawn_model(source, kinds, ["c", "d", "a"][:source.randint(0, more)], 2)
                self.compare_with_the_grid(one, other, seen)
        self.assertGreaterEqual(set(seen), {None, 0, 1})

    def test_nearly_alike_loops_and_the_grid_gone_through(self):
        source = random.Random(1302)
        seen = {None: 0}
        for _ in range(25):
            for kinds, many, _ in SMALL:
                one = drawn_model(source, kinds, ["a", "b", "c"][:many], 3)
                other = mixed_model(one, ["k", "l", "m"], [source.randint(-2, 2) for _ in range(many)])
                self.assertTrue(alike(one.loop(), other.loop()))
                if kinds:
                    kind, _ = source.choice(kinds)
                    name = source.choice(["k", "l", "m"][:many])
                    terms = other.changes[kind][name]
                    if terms:
                        term = source.choice(list(terms))
                        terms[term] = terms[term] + source.choice([-1, 1, Fraction(1, 2)])
                self.compare_with_the_grid(one, other, seen)
        self.assertGreater(seen[None], 10)
        self.assertGreaterEqual(set(seen), {None, 1, 2, 3})

    def compare_with_the_grid(self, one, other, seen):
        """Compares with the grid gone through; no list with more rows than both have registers can be the first."""
        expected = first_unlike(one, other, min(len(one.starts) + len(other.starts), 4))
        loops = [one.loop(), other.loop()]
        found = parting(*loops)
        self.assertIs(alike(*loops), found is None)
        if found is None:
            self.assertIsNone(expected)
            seen[None] += 1
            return
        if expected is None:
            self.assertGreater(len(found.rows), 4)
            self.assertNotEqual(one.run(found.rows), other.run(found.rows))
        else:
            self.assertEqual(found.rows, expected)
        self.assert_parting(found, found.rows, (one.run(found.rows), other.run(found.rows)))
        seen[len(found.rows)] = seen.get(len(found.rows), 0) + 1

    def test_lists_with_fewer_rows_tell_the_same_whatever_their_numbers_are(self):
        source = random.Random(1303)
        kinds = [("b", ["x", "y"]), ("go", [])]
        many = 0
        for _ in range(200):
            one = drawn_model(source, kinds, ["a", "b", "c"], 3)
            other = mixed_model(one, ["k", "l", "m"], [source.randint(-2, 2) for _ in range(3)])
            terms = other.changes["b"][source.choice(["k", "l", "m"])]
            terms[("l", (1, source.randint(0, 2)))] = Fraction(source.randint(1, 3))
            found = parting(one.loop(), other.loop())
            if found is None or not found.rows:
                continue
            for _ in range(20):
                rows = drawn_rows(source, kinds, len(found.rows) - 1)
                self.assertEqual(one.run(rows), other.run(rows))
                many += len(rows) > 0
            self.assertIn(found.rows[0], grid_rows(kinds, joined_powers([one, other])))
        self.assertGreater(many, 100)

    def test_long_numbers(self):
        one = Loop(NUMBERS, {"a": THIRTY}, {"row": {"a": f"{THIRTY}*x*a + {THIRTY}/{THIRTY - 1}"}}, "a")
        other = Loop(NUMBERS, {"b": 1}, {"row": {"b": f"{THIRTY}*x*b + 1/{THIRTY - 1}"}}, f"{THIRTY}*b")
        self.assertTrue(alike(one, other))
        near = Loop(NUMBERS, {"b": 1}, {"row": {"b": f"{THIRTY}*x*b + 1/{THIRTY}"}}, f"{THIRTY}*b")
        found = parting(one, near)
        self.assert_parting(found, [("row", 0)], (Fraction(THIRTY, THIRTY - 1), 1))

    def test_other_rows(self):
        loop = Loop(Rows([["a", ["x", "y"]], ["b", []]]), {"s": 0}, {}, "s")
        for kinds in ([], [["a", ["x", "y"]]], [["b", []], ["a", ["x", "y"]]], [["a", ["y", "x"]], ["b", []]],
                      [["a", ["x"]], ["b", []]], [["a", ["x", "y"]], ["c", []]], [["a", ["x", "z"]], ["b", []]]):
            other = Loop(Rows(kinds), {"s": 0}, {}, "s")
            for one, two in ((loop, other), (other, loop)):
                for function in (parting, alike):
                    with self.assertRaises(UnlikeRows) as caught:
                        function(one, two)
                    self.assertIsInstance(caught.exception, ListError)
        equal = Loop(Rows((("a", ("x", "y")), ["b", ()])), {"s": 0}, {}, "s")
        self.assertTrue(alike(loop, equal))

    def test_what_is_returned_is_new_and_loops_stay(self):
        texts = [loop_text(SUMS), loop_text(LATE)]
        found = parting(SUMS, LATE)
        found.rows.append(("row", 5))
        found.tells = None
        self.assert_parting(parting(SUMS, LATE), [("row", 1)], (0, 1))
        self.assertIsNot(parting(SUMS, LATE).rows, parting(SUMS, LATE).rows)
        self.assertEqual([loop_text(SUMS), loop_text(LATE)], texts)
        self.assertTrue(alike(SUMS, read_loop(texts[0])))


class AlwaysTest(ComparingTest):
    def assert_always(self, loop, expected):
        found = always(loop)
        self.assertIsNotNone(found)
        self.assertEqual(value(found), expected)
        self.assertIs(type(found), int if Fraction(expected).denominator == 1 else Ratio)

    def test_loops_that_always_tell_the_same(self):
        for told, expected in (("0", 0), ("7", 7), ("-1/2", Fraction(-1, 2)), ("s - s + 3", 3), ("c", Fraction(1, 3)),
                               ("6*c", 2), ("s + t", 5), ("2*s + 2*t - 10", 0)):
            self.assert_always(Loop(NUMBERS, {"s": 1, "t": 4, "c": Ratio(2, 6)},
                                    {"row": {"s": "s + x", "t": "t - x"}}, told), expected)

    def test_loops_that_do_not(self):
        for change in ("s + x", "s + 1", "x*s - s", "2*s", "0", "x^2 - x"):
            loop = Loop(NUMBERS, {"s": 1}, {"row": {"s": change}}, "s")
            self.assertIsNone(always(loop), change)
        # Only the third row is seen.
        changes = {"go": {"a": "b", "b": "c", "c": "1"}}
        self.assertIsNone(always(Loop(STEPS, {"a": 0, "b": 0, "c": 0}, changes, "a")))

    def test_loops_without_registers_and_without_kinds(self):
        self.assert_always(Loop(NUMBERS, {}, {}, "3/2"), Fraction(3, 2))
        self.assert_always(Loop(Rows([]), {}, {}, "0"), 0)
        self.assert_always(Loop(Rows([]), {"a": Ratio(1, 2), "b": THIRTY}, {}, "2*a + b"), THIRTY + 1)

    def test_the_grid_gone_through(self):
        source = random.Random(1401)
        constant = 0
        for _ in range(40):
            for kinds, many, _ in SMALL:
                model = drawn_model(source, kinds, ["a", "b", "c"][:source.randint(0, many)], 2)
                worths = {model.run(rows) for rows in grid_lists(kinds, model.powers(), len(model.starts))}
                if len(worths) == 1:
                    self.assert_always(model.loop(), worths.pop())
                    constant += 1
                else:
                    self.assertIsNone(always(model.loop()))
        self.assertGreater(constant, 30)

    def test_loops_stay(self):
        before = loop_text(SUMS)
        self.assertIsNone(always(SUMS))
        self.assertEqual(loop_text(SUMS), before)


class ReckoningTest(unittest.TestCase):
    """The tests' own reckoning and the package's loops run alike."""

    def test_runs(self):
        source = random.Random(1304)
        for _ in range(100):
            kinds = source.choice(SMALL)[0] + [("many", ["u", "v", "w"])]
            model = drawn_model(source, kinds, ["a", "b", "c"], 3)
            loop = model.loop()
            self.assertEqual(loop.powers(), model.powers())
            rows = drawn_rows(source, kinds, 6)
            self.assertEqual({name: value(number) for name, number in loop.behind(rows).items()}, model.behind(rows))
            self.assertEqual(value(loop.run(rows)), model.run(rows))
            self.assertEqual(Model(kinds, model.starts, model.changes, model.told).loop(), loop)


if __name__ == "__main__":
    unittest.main()
