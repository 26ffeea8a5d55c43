"""Points [15] and [16]: ends, beginnings, least, without, needless."""

import random
import time
import unittest
from fractions import Fraction
from unittest import mock

from reckoning import (Model, Span, beginnings_of, drawn_model, drawn_rows, ends_of, first_unlike, mixed_model, value)

from everylist.comparing import alike
from everylist.errors import ListError, NoRegister
from everylist.forms import beginnings, ends, least, needless, without
from everylist.loops import Loop
from everylist.polys import Poly
from everylist.ratios import Ratio
from everylist.rows import Rows
from everylist.texts import loop_text, read_loop

THIRTY = 10 ** 30 - 1
NUMBERS = Rows([["row", ["x"]]])
SUMS = Loop(NUMBERS, {"s": 0, "p": 0, "q": 0}, {"row": {"s": "s + x", "p": "p + x*s", "q": "q + x^2"}}, "p")
# Kinds whose grids have few rows, with none, one and several fields, and how many registers are drawn.
SMALL = (
    ([], 2), ([("go", [])], 3), ([("up", []), ("down", [])], 3), ([("row", ["x"])], 2),
    ([("row", ["x"]), ("note", [])], 2), ([("b", ["x", "y"])], 1), ([("b", ["x"]), ("a", ["y"])], 2),
)


def without_in(model, name):
    """The model without a register."""
    kept = {other: number for other, number in model.starts.items() if other != name}
    changes = {kind: {other: {term: number for term, number in sums[other].items() if term[0] != name}
                      for other in kept} for kind, sums in model.changes.items()}
    told = {source: number for source, number in model.told.items() if source != name}
    return Model(model.kinds, kept, changes, told)


class FormsTest(unittest.TestCase):
    def assert_lists(self, found, expected):
        """Asserts that these are new lists of lists of tuples."""
        self.assertEqual(found, expected)
        self.assertIs(type(found), list)
        for rows in found:
            self.assertIs(type(rows), list)
            self.assertEqual([type(row) for row in rows], [tuple] * len(rows))
            for row in rows:
                self.assertEqual([type(number) for number in row[1:]], [int] * (len(row) - 1))


class EndsTest(FormsTest):
    def test_the_example_of_the_document(self):
        told = [ends(SUMS), needless(SUMS), least(SUMS).change("row", "ra"), least(SUMS).change("row", "rb")]
        self.assertEqual(repr(told), "[[[], [('row', 1)]], ['q'], '-x*ra + ra + x*rb', '-x*ra + x*rb + rb + x']")
        self.assert_lists(beginnings(SUMS), beginnings_of(Model(
            [("row", ["x"])], {"s": 0, "p": 0, "q": 0},
            {"row": {"s": {("s", (0,)): 1, ("1", (1,)): 1}, "p": {("p", (0,)): 1, ("s", (1,)): 1},
                     "q": {("q", (0,)): 1, ("1", (2,)): 1}}}, {"p": 1})))

    def test_small_loops(self):
        shop = Rows([["buy", ["price", "many"]], ["note", []]])
        count = Loop(shop, {"c": 5, "t": 0}, {"note": {"c": "c + 1"}, "buy": {"t": "t + price*many"}}, "c")
        self.assert_lists(ends(count), [[]])
        self.assert_lists(beginnings(count), [[], [("note",)]])
        both = Loop(shop, {"c": 5, "t": 0}, {"note": {"c": "c + t"}, "buy": {"t": "t + price*many"}}, "c")
        self.assert_lists(ends(both), [[], [("note",)]])
        self.assert_lists(beginnings(both), [[], [("buy", 1, 1)], [("buy", 1, 1), ("note",)]])
        last = Loop(shop, {"t": 0}, {"buy": {"t": "price + 2*many"}}, "t")
        self.assert_lists(ends(last), [[]])
        self.assert_lists(beginnings(last), [[], [("buy", 0, 1)]])
        latest = Loop(NUMBERS, {"a": 0, "b": 0, "c": 0}, {"row": {"a": "b", "b": "c", "c": "x"}}, "a")
        self.assert_lists(ends(latest), [[], [("row", 0)], [("row", 0)] * 2])
        self.assert_lists(beginnings(latest), [[], [("row", 1)], [("row", 1), ("row", 0)],
                                               [("row", 1), ("row", 0), ("row", 0)]])

    def test_loops_that_always_tell_the_same(self):
        for loop in (Loop(NUMBERS, {}, {}, "3"), Loop(Rows([]), {}, {}, "0"), Loop(Rows([]), {"a": 1}, {}, "a"),
                     Loop(NUMBERS, {"a": 1, "b": 2}, {"row": {"a": "a + x*b", "b": "b - 1"}}, "1/2"),
                     Loop(NUMBERS, {"a": 1, "b": 2}, {"row": {"a": "a + x*b", "b": "b - x*b"}}, "a + b"),
                     Loop(NUMBERS, {"a": 0}, {"row": {"a": "x*a"}}, "a")):
            self.assert_lists(ends(loop), [])
            self.assert_lists(beginnings(loop), [[]])
            one_form = least(loop)
            self.assertEqual(one_form.registers(), [])
            self.assertEqual(one_form.run([]), loop.run([]))
            self.assertTrue(one_form.rows == loop.rows and alike(one_form, loop))

    def test_the_grid_gone_through(self):
        source = random.Random(1501)
        seen = {}
        for _ in range(30):
            for kinds, many in SMALL:
                model = drawn_model(source, kinds, ["a", "b", "c"][:source.randint(0, many)], 3)
                loop = model.loop()
                self.assert_lists(ends(loop), ends_of(model))
                self.assert_lists(beginnings(loop), beginnings_of(model))
                seen[len(ends(loop))] = seen.get(len(ends(loop)), 0) + 1
        self.assertGreaterEqual(min([seen.get(k, 0) for k in range(4)]), 3)

    def test_the_order_of_rows_and_the_lesser_powers(self):
        # With x^2 - x in the place of x, or with kinds the other way about, other rows are the first ones.
        rows = Rows([["b", ["y", "x"]], ["a", ["x"]]])
        for kind, change, expected in (("b", "t + x*y", ("b", 1, 1)), ("b", "t + x^2 - x", ("b", 0, 2)),
                                       ("b", "t + y^2", ("b", 1, 0)), ("a", "t + x^2 - x", ("a", 2)),
                                       ("a", "t + 1", ("a", 0)), ("b", "t + x*y^2 - x*y", ("b", 2, 1))):
            counted = Loop(rows, {"t": 1}, {kind: {"t": change}}, "t")
            self.assert_lists(beginnings(counted), [[], [expected]])
            self.assert_lists(ends(counted), [[]])

    def test_what_is_returned_is_new_and_loops_stay(self):
        before = loop_text(SUMS)
        for function in (ends, beginnings):
            expected = function(SUMS)
            found = function(SUMS)
            found[1].append(("row", 7))
            found.append([])
            self.assertEqual(function(SUMS), expected)
        self.assertEqual(loop_text(SUMS), before)


class LeastTest(FormsTest):
    def assert_one_form(self, model, source):
        """Asserts that the one form of a model is what point [16] says it is."""
        loop = model.loop()
        one_form = least(loop)
        self.assertIs(type(one_form), Loop)
        self.assertTrue(one_form.rows == loop.rows)
        behind = ends_of(model)
        names = one_form.registers()
        self.assertEqual(names, ["ra", "rb", "rc", "rd"][:len(behind)])
        self.assertEqual(one_form.told(), "ra" if behind else str(loop.run([])))
        for name, end in zip(names, behind):
            self.assertEqual(value(one_form.start(name)), model.run(end))
        for _ in range(8):
            rows = drawn_rows(source, model.kinds, 5)
            self.assertEqual({name: value(number) for name, number in one_form.behind(rows).items()},
                             {name: model.run(rows + end) for name, end in zip(names, behind)})
            self.assertEqual(value(one_form.run(rows)), model.run(rows))
        return one_form

    def test_drawn_loops(self):
        source = random.Random(1601)
        for _ in range(25):
            for kinds, many in SMALL:
                self.assert_one_form(drawn_model(source, kinds, ["a", "b", "c"][:source.randint(0, many)], 3), source)

    def test_larger_loops(self):
        source = random.Random(1602)
        kinds = [("b", ["x", "y", "z"]), ("go", []), ("c", ["u"])]
        sizes = {}
        for _ in range(40):
            model = drawn_model(source, kinds, ["a", "b", "c", "d"], 3)
            loop = model.loop()
            one_form = least(loop)
            behind = ends(loop)
            self.assertEqual(len(beginnings(loop)), len(behind) + 1)
            sizes[len(behind)] = sizes.get(len(behind), 0) + 1
            for _ in range(5):
                rows = drawn_rows(source, kinds, 6)
                self.assertEqual([value(number) for number in one_form.behind(rows).values()],
                                 [model.run(rows + end) for end in behind])
                self.assertEqual(value(one_form.run(rows)), model.run(rows))
            self.assertTrue(alike(one_form, loop))
            self.assertEqual(least(one_form), one_form)
            self.assertEqual(ends(one_form), behind)
            self.assertEqual(needless(one_form), [])
        self.assertGreaterEqual(set(sizes), {2, 3, 4})

    def test_alike_loops_have_equal_one_forms(self):
        source = random.Random(1603)
        kinds = [("b", ["x", "y"]), ("go", [])]
        for _ in range(40):
            model = drawn_model(source, kinds, ["a", "b", "c"], 3)
            other = mixed_model(model, ["k", "l", "m"], [Fraction(source.randint(-3, 3), 2) for _ in range(3)])
            # One register more, on which nothing hangs.
            other.starts["n"] = Fraction(5)
            other.changes["b"]["n"] = {("n", (0, 0)): Fraction(2), ("l", (2, 2)): Fraction(1)}
            other.changes["go"]["n"] = {("l", ()): Fraction(1)}
            self.assertEqual(least(model.loop()), least(other.loop()))
            self.assertEqual(loop_text(least(model.loop())), loop_text(least(other.loop())))
            self.assertEqual(ends(model.loop()), ends(other.loop()))
            self.assertEqual(beginnings(model.loop()), beginnings(other.loop()))

    def test_unlike_loops_have_unlike_one_forms(self):
        source = random.Random(1604)
        unlike = 0
        for _ in range(60):
            for kinds, many in SMALL[1:]:
                model = drawn_model(source, kinds, ["a", "b", "c"][:many], 3)
                other = mixed_model(model, ["k", "l", "m"], [source.randint(-2, 2) for _ in range(many)])
                kind, _ = source.choice(kinds)
                terms = other.changes[kind][source.choice(["k", "l", "m"][:many])]
                if terms:
                    terms[source.choice(list(terms))] += source.choice([-1, 1])
                is_alike = first_unlike(model, other, 4) is None
                self.assertIs(least(model.loop()) == least(other.loop()), is_alike)
                unlike += not is_alike
        self.assertGreater(unlike, 100)

    def test_names_that_are_fields_are_left_out(self):
        changes = {"row": {"a": "b", "b": "c", "c": "ra + rb*a"}}
        loop = Loop(Rows([["row", ["rb", "ra"]]]), {"a": 1, "b": 2, "c": 4}, changes, "a")
        self.assertEqual(least(loop).registers(), ["rc", "rd", "re"])
        loop = Loop(Rows([["note", ["rc"]], ["row", ["rb", "ra"]]]), {"a": 1, "b": 2, "c": 4}, changes, "a")
        self.assertEqual(least(loop).registers(), ["rd", "re", "rf"])
        loop = Loop(Rows([["row", ["x", "rb"]]]), {"rb" + "x": 1, "b": 2}, {"row": {"rbx": "b", "b": "x*rb"}}, "rbx")
        self.assertEqual(least(loop).registers(), ["ra", "rc"])
        self.assertEqual([least(loop).change("row", "ra"), least(loop).change("row", "rc")], ["rc", "x*rb"])
        # The kinds may have these names.
        loop = Loop(Rows([["ra", ["x"]]]), {"s": 0}, {"ra": {"s": "s + x"}}, "s")
        self.assertEqual(least(loop).change("ra", "ra"), "ra + x")

    def test_names_behind_rz(self):
        fields = ["r" + letter for letter in "abcdefghijklmnopqr"]
        kinds = [["go", fields[:3]], *[["k" + fields[k], fields[k:k + 3]] for k in range(3, 18, 3)]]
        names = [letter for letter in "abcdefghi"]
        changes = {name: behind for name, behind in zip(names, [*names[1:], "ra"])}
        loop = Loop(Rows(kinds), {name: 0 for name in names}, {"go": changes}, "a")
        self.assertEqual(least(loop).registers(), ["rs", "rt", "ru", "rv", "rw", "rx", "ry", "rz", "sa"])

    def test_ratios(self):
        loop = Loop(NUMBERS, {"s": Ratio(1, 2), "t": Ratio(-1, 3)},
                    {"row": {"s": "1/2*s + 2/3*x*t", "t": "3/4*x^2*t + 1/5"}}, "3/7*s + 1/2")
        one_form = least(loop)
        self.assertEqual(str(one_form.start("ra")), "5/7")
        self.assertTrue(alike(one_form, loop))
        for rows in ([], [("row", Ratio(1, 3))], [("row", 2), ("row", Ratio(-5, 2)), ("row", 7)]):
            self.assertEqual(one_form.run(rows), loop.run(rows))
        parts = [one_form.part("row", name, part) for name in ("ra", "rb") for part in ("ra", "rb", "1")]
        for poly in parts:
            for number in poly.terms().values():
                self.assertTrue(isinstance(number, int) or number.bottom > 1)

    def test_long_numbers_soon(self):
        begun = time.monotonic()
        changes = {"row": {"a": f"{THIRTY}/{THIRTY - 1}*x*b + a", "b": f"{THIRTY - 2}/{THIRTY - 3}*x^2*c + b",
                           "c": f"1/{THIRTY - 5}*x*d + {THIRTY}*c", "d": f"d - {THIRTY}*x^2 + a"}}
        loop = Loop(NUMBERS, {name: Ratio(THIRTY, THIRTY - 7) for name in "abcd"}, changes, "a")
        one_form = least(loop)
        self.assertEqual(len(one_form.registers()), 4)
        self.assertTrue(alike(one_form, loop))
        self.assertEqual(least(one_form), one_form)
        rows = [("row", 3), ("row", Ratio(THIRTY, 7)), ("row", -2)]
        self.assertEqual(one_form.run(rows), loop.run(rows))
        self.assertLess(time.monotonic() - begun, 20)

    def test_large_grids_soon(self):
        begun = time.monotonic()
        rows = Rows([[kind, ["x", "y", "z"]] for kind in ("a", "b", "c", "d")])
        names = ["k", "l", "m", "n"]
        # The sums look at the last row of the grid alone, and at the last kind.
        last = "x^2*y^2*z^2 - x^2*y^2*z - x^2*y*z^2 + x^2*y*z - x*y^2*z^2 + x*y^2*z + x*y*z^2 - x*y*z"
        changes = {"d": {name: behind for name, behind in zip(names, ["l", "m", "n", last])}}
        loop = Loop(rows, {name: 0 for name in names}, changes, "k")
        first = ("d", 2, 2, 2)
        zero = ("d", 0, 0, 0)
        self.assertEqual(ends(loop), [[], [zero], [zero] * 2, [zero] * 3])
        self.assertEqual(beginnings(loop), [[]] + [[first] + [zero] * many for many in range(4)])
        self.assertEqual(least(loop).change("d", "rd"), last)
        self.assertLess(time.monotonic() - begun, 20)

    def test_what_is_returned_is_new_and_loops_stay(self):
        before = loop_text(SUMS)
        one, other = least(SUMS), least(SUMS)
        self.assertIsNot(one, other)
        self.assertEqual(one, other)
        self.assertIsNot(least(one), one)
        self.assertEqual(read_loop(loop_text(one)), one)
        self.assertEqual(loop_text(SUMS), before)


class WithoutTest(unittest.TestCase):
    def test_a_register_and_0_in_its_place(self):
        shop = Rows([["buy", ["price"]], ["note", []]])
        loop = Loop(shop, {"a": 1, "b": Ratio(1, 2), "c": 3},
                    {"buy": {"a": "a + 2*b - price*c + 4", "b": "b*price", "c": "b"}, "note": {"c": "a - c"}},
                    "a - 2*b + c + 5")
        found = without(loop, "b")
        self.assertEqual(found, Loop(shop, {"a": 1, "c": 3}, {
            "buy": {"a": "a - price*c + 4", "c": "0"}, "note": {"c": "a - c"}}, "a + c + 5"))
        self.assertEqual(found.registers(), ["a", "c"])
        self.assertEqual(without(without(loop, "a"), "c"),
                         Loop(shop, {"b": Ratio(1, 2)}, {"buy": {"b": "price*b"}}, "-2*b + 5"))
        none = without(Loop(NUMBERS, {"s": 4}, {"row": {"s": "s + x"}}, "s + 1/2"), "s")
        self.assertEqual(none, Loop(NUMBERS, {}, {}, "1/2"))
        self.assertIs(none.rows, NUMBERS)

    def test_drawn_loops(self):
        source = random.Random(1605)
        for _ in range(60):
            kinds = [("b", ["x", "y"]), ("go", [])]
            model = drawn_model(source, kinds, ["a", "b", "c"], 4)
            name = source.choice(["a", "b", "c"])
            self.assertEqual(without(model.loop(), name), without_in(model, name).loop())

    def test_any_objects_that_are_no_registers(self):
        before = loop_text(SUMS)
        for thing in (None, True, 0, 1, "", "1", "x", "row", "S", "ss", b"s", ["s"], ("s",), {"s": 1}, {"s"}, object(),
                      Ratio(1), Poly([], {}), SUMS, mock.ANY, 1.5):
            with self.assertRaises(NoRegister) as caught:
                without(SUMS, thing)
            self.assertIs(caught.exception.name, thing)
            self.assertIsInstance(caught.exception, ListError)
        self.assertEqual(loop_text(SUMS), before)

    def test_the_loop_stays(self):
        before = loop_text(SUMS)
        found = without(SUMS, "q")
        self.assertEqual(loop_text(SUMS), before)
        self.assertIsNot(found, without(SUMS, "q"))


class NeedlessTest(unittest.TestCase):
    def test_registers_on_which_nothing_hangs(self):
        self.assertEqual(needless(SUMS), ["q"])
        self.assertEqual(needless(Loop(NUMBERS, {"b": 0, "a": 0}, {"row": {"a": "a + b + x"}}, "a")), ["b"])
        self.assertEqual(needless(Loop(NUMBERS, {"b": 0, "a": 1}, {"row": {"b": "b + a"}}, "0")), ["b", "a"])
        self.assertEqual(needless(Loop(NUMBERS, {}, {}, "1")), [])
        self.assertEqual(needless(Loop(Rows([]), {"b": 0, "a": 1, "c": 0}, {}, "a + b")), ["b", "c"])

    def test_registers_are_left_out_one_by_one(self):
        # Each of a and b, that hold the same, does nothing alone, as c holds 0.
        changes = {"row": {"a": "a + x", "b": "b + x", "c": "a*x - b*x"}}
        self.assertEqual(needless(Loop(NUMBERS, {"a": 0, "b": 0, "c": 0, "d": 0}, changes, "d + c")), ["c", "d"])
        self.assertEqual(needless(Loop(NUMBERS, {"b": 2, "a": -2}, {}, "a + b")), [])
        # What is told is 0 with both and with none of them.
        self.assertEqual(needless(Loop(NUMBERS, {"b": 2, "a": 0}, {"row": {"a": "a - x*a"}}, "a*2")), ["b", "a"])

    def test_the_grid_gone_through(self):
        source = random.Random(1606)
        many = {}
        for _ in range(40):
            for kinds, most in SMALL:
                names = ["c", "a", "b"][:most]
                model = drawn_model(source, kinds, names, 2)
                expected = [name for name in names
                            if first_unlike(model, without_in(model, name), 2 * most - 1) is None]
                found = needless(model.loop())
                self.assertEqual(found, expected)
                self.assertIs(type(found), list)
                many[len(found)] = many.get(len(found), 0) + 1
        self.assertGreater(min([many.get(k, 0) for k in range(3)]), 10)

    def test_what_is_returned_is_new_and_the_loop_stays(self):
        before = loop_text(SUMS)
        found = needless(SUMS)
        found.append("s")
        self.assertEqual(needless(SUMS), ["q"])
        self.assertEqual(loop_text(SUMS), before)


class SpanTest(unittest.TestCase):
    def test_the_reckoning_of_sums(self):
        span = Span()
        self.assertEqual([span.take(one) for one in ([0, 0], [1, 2], [2, 4], [0, Fraction(1, 2)], [5, 7])],
                         [False, True, False, True, False])


if __name__ == "__main__":
    unittest.main()
