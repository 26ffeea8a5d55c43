"""Point [27]: find_loop."""

import itertools
import random
import time
import unittest
from fractions import Fraction

from reckoning import drawn_model, drawn_rows, ends_of, grid_lists, number_of, value

from everylist.built import turned
from everylist.comparing import alike
from everylist.errors import ListError, NoLoop
from everylist.finding import find_loop
from everylist.forms import least
from everylist.loops import Loop
from everylist.ratios import Ratio
from everylist.rows import Rows
from everylist.texts import loop_text, read_loop

THIRTY = 10 ** 30 - 1
NUMBERS = Rows([["row", ["x"]]])
SUMS = Loop(NUMBERS, {"s": 0, "p": 0, "q": 0}, {"row": {"s": "s + x", "p": "p + x*s", "q": "q + x^2"}}, "p")


class Teller:
    """A function of lists that keeps what it was asked."""

    def __init__(self, tell):
        self.tell = tell
        self.asked = []
        self.objects = []

    def __call__(self, rows):
        self.asked.append(list(rows))
        self.objects.append(rows)
        told = self.tell(list(rows))
        # What is done to the list that is passed has no effect.
        rows.append(None)
        return told


class FindingTest(unittest.TestCase):
    def found(self, kinds, powers, most, tell):
        """What is found, with all that is asked looked at."""
        teller = Teller(tell)
        loop = self.ask(kinds, powers, most, teller)
        self.assertIs(type(loop), Loop)
        self.assertEqual(loop.rows, Rows(kinds))
        self.assertLessEqual(len(loop.registers()), most)
        self.assertEqual(least(loop), loop)
        self.assertEqual(read_loop(loop_text(loop)), loop)
        for kind, tops in loop.powers().items():
            self.assertTrue(all([top <= power for top, power in zip(tops, powers[kind])]))
        return loop

    def ask(self, kinds, powers, most, teller):
        before = repr(powers)
        try:
            return find_loop(Rows(kinds), powers, most, teller)
        finally:
            self.assertEqual(teller.asked, grid_lists(kinds, powers, 2 * most))
            self.assertEqual(len({id(one) for one in teller.objects}), len(teller.objects))
            for rows in teller.objects:
                self.assertIs(type(rows), list)
                self.assertEqual([type(row) for row in rows[:-1]], [tuple] * (len(rows) - 1))
            self.assertEqual(repr(powers), before)

    def assert_none(self, kinds, powers, most, tell):
        with self.assertRaises(NoLoop) as caught:
            self.ask(kinds, powers, most, Teller(tell))
        self.assertIsInstance(caught.exception, ListError)

    def test_the_example_of_the_document(self):
        found = find_loop(NUMBERS, {"row": [1]}, 1, lambda rows: sum([row[1] for row in rows])).change("row", "ra")
        self.assertEqual(repr(found), "'ra + x'")

    def test_functions_of_lists(self):
        kinds = [("row", ["x"])]
        for tell, power, most, expected in (
                (len, 0, 1, Loop(NUMBERS, {"n": 0}, {"row": {"n": "n + 1"}}, "n")),
                (lambda rows: len(rows) ** 2, 0, 2, Loop(NUMBERS, {"n": 0, "q": 0}, {"row": {
                    "n": "n + 1", "q": "q + 2*n + 1"}}, "q")),
                (lambda rows: rows[-1][1] if rows else 7, 1, 1, Loop(NUMBERS, {"l": 7}, {"row": {"l": "x"}}, "l")),
                (lambda rows: rows[0][1] if rows else 0, 1, 2, Loop(NUMBERS, {"f": 0, "k": 1}, {"row": {
                    "f": "f + k*x", "k": "0"}}, "f")),
                (lambda rows: sum([row[1] ** 3 for row in rows]), 3, 1, Loop(NUMBERS, {"c": 0}, {"row": {
                    "c": "c + x^3"}}, "c")),
                (lambda rows: sum([one[1] * two[1] for one, two in itertools.combinations(rows, 2)]), 1, 2, SUMS),
                (lambda rows: int("0" + "".join([str(row[1]) for row in rows])), 1, 1, Loop(
                    NUMBERS, {"h": 0}, {"row": {"h": "10*h + x"}}, "h")),
                (lambda rows: Ratio(1, 3) if len(rows) % 2 else Ratio(4, 2), 0, 1, Loop(
                    NUMBERS, {"t": 2}, {"row": {"t": "7/3 - t"}}, "t")),
                (lambda rows: THIRTY * sum([row[1] for row in rows]) + 1, 1, 1, Loop(
                    NUMBERS, {"t": 0}, {"row": {"t": f"t + {THIRTY}*x"}}, "t + 1"))):
            loop = self.found(kinds, {"row": [power]}, most, tell)
            self.assertTrue(alike(loop, expected))
            self.assertEqual(loop, least(expected))
            # Greater powers and more registers find the same.
            self.assertEqual(self.found(kinds, {"row": [power + 1]}, most, tell), loop)

    def test_the_same_for_all_lists(self):
        for number in (0, 5, Ratio(-1, 2), Ratio(6, 3)):
            for kinds, powers in (([], {}), ([("row", ["x"])], {"row": [2]}), ([("go", []), ("a", ["x", "y"])], {
                    "go": [], "a": [1, 0]})):
                for most in (0, 1):
                    loop = self.found(kinds, powers, most, lambda rows, told=number: told)
                    self.assertEqual(loop.registers(), [])
                    self.assertEqual(value(loop.run([])), value(number))
                    self.assertIs(type(loop.run([])), int if value(number).denominator == 1 else Ratio)

    def test_most_of_0_asks_the_empty_list_alone(self):
        teller = Teller(lambda rows: 3)
        self.assertEqual(find_loop(NUMBERS, {"row": [5]}, 0, teller), Loop(NUMBERS, {}, {}, "3"))
        self.assertEqual(teller.asked, [[]])

    def test_functions_that_no_loop_is(self):
        kinds = [("row", ["x"])]
        for tell, power, most in (
                (lambda rows: max([row[1] for row in rows], default=0), 2, 1),
                (lambda rows: max([row[1] for row in rows], default=0), 3, 2),
                (lambda rows: int(len(rows) == 2), 0, 1), (lambda rows: int(len(rows) == 4), 0, 2),
                (lambda rows: int(len(rows) == 3), 0, 2),
                (lambda rows: len(rows) * sum([row[1] for row in rows]), 1, 1),
                (lambda rows: sum([one[1] * two[1] for one, two in itertools.combinations(rows, 2)]), 1, 1),
                (lambda rows: len({row[1] for row in rows}), 2, 2),
                (lambda rows: sum([sign * row[1] for sign, row in zip(itertools.cycle([1, 2, 3, 5]), rows)]), 1, 2)):
            self.assert_none(kinds, {"row": [power]}, most, tell)

    def test_lists_with_as_many_rows_as_asked_count(self):
        # It tells of lists of 2 * most rows alone whether there is one.
        for most in (1, 2):
            self.assert_none([("go", [])], {"go": []}, most, lambda rows: int(len(rows) == 2 * most))
            last = [("row", 0)] * (2 * most - 1) + [("row", 1)]
            self.assert_none([("row", ["x"])], {"row": [1]}, most,
                             lambda rows: sum([row[1] for row in rows]) + int(rows == last))

    def test_powers_limit_what_is_found(self):
        # On the numbers 0 and 1 x^2 is x: with the power 1 the sum is found.
        kinds = [("row", ["x"])]

        def squares(rows):
            return sum([row[1] ** 2 for row in rows])

        self.assertEqual(self.found(kinds, {"row": [1]}, 1, squares).change("row", "ra"), "ra + x")
        self.assertEqual(self.found(kinds, {"row": [2]}, 1, squares).change("row", "ra"), "ra + x^2")
        self.assertEqual(self.found(kinds, {"row": [5]}, 1, squares).change("row", "ra"), "ra + x^2")
        self.assertEqual(self.found(kinds, {"row": [0]}, 1, squares), Loop(NUMBERS, {}, {}, "0"))

    def test_several_kinds_and_fields(self):
        kinds = [("set", ["x"]), ("add", ["x", "y"]), ("clear", [])]

        def tell(rows):
            total = Fraction(0)
            for kind, *numbers in rows:
                if kind == "set":
                    total = Fraction(numbers[0])
                elif kind == "add":
                    total += numbers[0] * numbers[1] ** 2 - Fraction(numbers[1], 2)
                else:
                    total = Fraction(0)
            return number_of(total)

        loop = self.found(kinds, {"set": [1], "add": [1, 2], "clear": []}, 1, tell)
        self.assertEqual(loop, Loop(Rows(kinds), {"ra": 0}, {
            "set": {"ra": "x"}, "add": {"ra": "ra + x*y^2 - 1/2*y"}, "clear": {"ra": "0"}}, "ra"))

    def test_drawn_loops_are_found(self):
        source = random.Random(2701)
        many = {}
        for _ in range(60):
            kinds, most = source.choice([([("go", [])], 3), ([("up", []), ("down", [])], 3), ([("row", ["x"])], 2),
                                         ([("b", ["x", "y"])], 1), ([("row", ["x"]), ("go", [])], 2), ([], 2)])
            model = drawn_model(source, kinds, ["a", "b", "c"][:source.randint(0, most)], 2)
            powers = model.powers()
            loop = self.found(kinds, powers, most, lambda rows: number_of(model.run(rows)))
            self.assertEqual(loop, least(model.loop()))
            for _ in range(4):
                rows = drawn_rows(source, kinds, 5)
                self.assertEqual(value(loop.run(rows)), model.run(rows))
            needed = len(ends_of(model))
            many[needed] = many.get(needed, 0) + 1
            if needed > 1:
                self.find_with_too_few(model, powers, needed - 1)
        self.assertGreaterEqual(set(many), {0, 1, 2, 3})

    def find_with_too_few(self, model, powers, most):
        """With fewer registers than needed there may be a loop for the shorter lists that are asked, or none."""
        try:
            loop = self.found(model.kinds, powers, most, lambda rows: number_of(model.run(rows)))
        except NoLoop:
            return
        for rows in grid_lists(model.kinds, powers, 2 * most):
            self.assertEqual(value(loop.run(rows)), model.run(rows))

    def test_the_loop_is_called_for_all_lists_once_more(self):
        found = find_loop(NUMBERS, {"row": [1]}, 2, SUMS.run)
        self.assertEqual(found, least(SUMS))
        self.assertEqual(find_loop(NUMBERS, {"row": (1,)}, 2, turned(SUMS).run), least(SUMS))
        self.assertIsNot(find_loop(NUMBERS, {"row": [1]}, 2, SUMS.run), found)

    def test_names_that_are_fields(self):
        loop = find_loop(Rows([["row", ["ra"]]]), {"row": [1]}, 1, lambda rows: sum([row[1] for row in rows]))
        self.assertEqual(loop.change("row", "rb"), "rb + ra")

    def test_errors_of_the_function_are_passed_on(self):
        def fail(rows):
            raise KeyError("no")

        with self.assertRaises(KeyError):
            find_loop(NUMBERS, {"row": [1]}, 1, fail)

    def test_soon(self):
        begun = time.monotonic()
        kinds = [("b", ["x", "y", "z"]), ("go", [])]
        powers = {"b": [1, 1, 3], "go": []}
        loop = self.found(kinds, powers, 1, lambda rows: sum([row[1] * row[2] * row[3] ** 3 if row[0] == "b" else THIRTY
                                                              for row in rows]))
        self.assertEqual([loop.change("b", "ra"), loop.change("go", "ra")], ["ra + x*y*z^3", f"ra + {THIRTY}"])
        four = [("a", ["x"]), ("b", ["x"])]
        found = self.found(four, {"a": [1], "b": [1]}, 2, lambda rows: sum(
            [one[1] * two[1] for one, two in itertools.combinations(rows, 2) if (one[0], two[0]) == ("a", "b")]))
        self.assertEqual(len(found.registers()), 2)
        three = [("a", []), ("b", [])]
        found = self.found(three, {"a": [], "b": []}, 3, lambda rows: sum(
            [1 for one in itertools.combinations([row[0] for row in rows], 3) if one == ("a", "b", "a")]))
        self.assertEqual(len(found.registers()), 3)
        self.assertLess(time.monotonic() - begun, 30)


if __name__ == "__main__":
    unittest.main()
