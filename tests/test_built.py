"""Points [21] to [24]: plus, minus, product, scaled, turned, after, before, running, only, led, beside."""

import random
import time
import unittest
from fractions import Fraction
from unittest import mock

from reckoning import drawn_model, drawn_number, drawn_row, drawn_rows, number_of, value

from everylist.built import after, before, beside, led, minus, only, plus, product, running, scaled, turned
from everylist.comparing import alike, parting
from everylist.errors import BadRow, ListError, NameInUse, NoKind, NoWay, OtherFields, UnlikeRows, WrongCount
from everylist.forms import least
from everylist.loops import Loop
from everylist.polys import Poly
from everylist.ratios import Ratio
from everylist.relations import relations
from everylist.rows import Rows
from everylist.texts import loop_text, read_loop

THIRTY = 10 ** 30 - 1
NUMBERS = Rows([["row", ["x"]]])
SUMS = Loop(NUMBERS, {"s": 0, "p": 0, "q": 0}, {"row": {"s": "s + x", "p": "p + x*s", "q": "q + x^2"}}, "p")
HORNER = Loop(NUMBERS, {"h": 1}, {"row": {"h": "10*h + x"}}, "h + 1/2")
KINDS = ([], [("go", [])], [("row", ["x"])], [("b", ["x", "y"]), ("go", [])],
         [("k", ["x", "y", "z"]), ("l", ["x"]), ("m", [])])
ANY_OBJECTS = (None, True, 0, 1.5, "", "x", "Row", b"row", ["row"], ("row",), {"row"}, {"row": 1}, object(), Ratio(1),
               Poly([], {}), NUMBERS, mock.ANY)


class BuiltTest(unittest.TestCase):
    def draw(self, seed, many=60, names=("a", "b", "c", "d"), most=3):
        """Draws models, their loops, and some lists for each."""
        source = random.Random(seed)
        for _ in range(many):
            kinds = source.choice(KINDS)
            model = drawn_model(source, kinds, names[:source.randint(0, most)], 3)
            yield source, kinds, model, model.loop(), [drawn_rows(source, kinds, 5) for _ in range(6)] + [[]]

    def assert_plain(self, number, expected):
        self.assertEqual(value(number), expected)
        self.assertIs(type(number), int if Fraction(expected).denominator == 1 else Ratio)

    def assert_whole(self, loop):
        """Asserts that a loop is one as any other: that its text is read back as an equal one."""
        self.assertIs(type(loop), Loop)
        self.assertEqual(read_loop(loop_text(loop)), loop)

    def assert_error(self, error, attributes, function, *given):
        with self.assertRaises(error) as caught:
            function(*given)
        self.assertIsInstance(caught.exception, ListError)
        for name, expected in attributes.items():
            self.assertIs(getattr(caught.exception, name), expected)


class SumsTest(BuiltTest):
    def test_sums_differences_and_products(self):
        for source, kinds, model, loop, lists in self.draw(2101):
            more = drawn_model(source, kinds, ["a", "w", "b"][:source.randint(0, 3)], 3)
            other = more.loop()
            texts = [loop_text(loop), loop_text(other)]
            many, less = len(model.starts), len(more.starts)
            for function, most, reckon in (
                    (plus, many + less, lambda one, two: one + two), (minus, many + less, lambda one, two: one - two),
                    (product, many + less + many * less, lambda one, two: one * two)):
                found = function(loop, other)
                self.assert_whole(found)
                self.assertEqual(found.rows, loop.rows)
                self.assertLessEqual(len(found.registers()), most)
                for rows in lists:
                    self.assert_plain(found.run(rows), reckon(model.run(rows), more.run(rows)))
                self.assertIsNot(function(loop, other), found)
            self.assertEqual([loop_text(loop), loop_text(other)], texts)

    def test_one_object_as_both(self):
        for _, _, model, loop, lists in self.draw(2102, 30):
            many = len(model.starts)
            for function, most, reckon in ((plus, 2 * many, lambda one: 2 * one), (minus, 2 * many, lambda one: 0),
                                           (product, 2 * many + many * many, lambda one: one * one)):
                found = function(loop, loop)
                self.assertLessEqual(len(found.registers()), most)
                for rows in lists:
                    self.assert_plain(found.run(rows), reckon(model.run(rows)))

    def test_what_is_built_may_be_compared(self):
        self.assertTrue(alike(product(SUMS, HORNER), product(HORNER, SUMS)))
        self.assertTrue(alike(plus(SUMS, SUMS), scaled(SUMS, 2)))
        self.assertTrue(alike(minus(plus(SUMS, HORNER), HORNER), SUMS))
        # The square of a sum is the difference of two products.
        total = Loop(NUMBERS, {"s": 0}, {"row": {"s": "s + x"}}, "s")
        squares = Loop(NUMBERS, {"q": 0}, {"row": {"q": "q + x^2"}}, "q")
        self.assertTrue(alike(minus(product(total, total), squares), scaled(SUMS, 2)))
        self.assertEqual(parting(product(total, total), squares).rows, [("row", 1)] * 2)

    def test_other_rows(self):
        other = Loop(Rows([["row", ["y"]]]), {}, {}, "1")
        for function in (plus, minus, product, beside):
            self.assert_error(UnlikeRows, {}, function, SUMS, other)
            self.assert_error(UnlikeRows, {}, function, other, SUMS)

    def test_names_that_are_fields(self):
        rows = Rows([["row", ["ra", "rb"]], ["go", ["rd"]]])
        loop = Loop(rows, {"x": 1, "re": 2}, {"row": {"x": "x + ra", "re": "re*rb"}, "go": {"x": "rd*x"}}, "x + re")
        lists = [[("row", 2, 3), ("go", 5), ("row", 1, 7)], [("go", 2)], []]
        for built, reckon in ((plus(loop, loop), lambda told: 2 * told),
                              (product(loop, loop), lambda told: told * told)):
            self.assert_whole(built)
            for one in lists:
                self.assertEqual(built.run(one), reckon(loop.run(one)))
        self.assertEqual(turned(loop).run(lists[0]), loop.run(lists[0][::-1]))
        self.assertEqual(running(loop).run(lists[1]), loop.run(lists[1]))

    def test_scaled(self):
        for source, _, model, loop, lists in self.draw(2103, 40):
            number = source.choice([0, 1, -1, 3, Ratio(-2, 3), Ratio(4, 2), THIRTY, Ratio(1, THIRTY)])
            found = scaled(loop, number)
            self.assert_whole(found)
            self.assertIn(len(found.registers()), (len(model.starts), len(model.starts) + 1))
            for rows in lists:
                self.assert_plain(found.run(rows), value(number) * model.run(rows))
            self.assertEqual(loop, model.loop())


class TurnedTest(BuiltTest):
    def test_rows_from_the_last_to_the_first(self):
        for _, _, model, loop, lists in self.draw(2201):
            found = turned(loop)
            self.assert_whole(found)
            self.assertIn(len(found.registers()), (len(model.starts), len(model.starts) + 1))
            for rows in lists:
                self.assert_plain(found.run(rows), model.run(rows[::-1]))
            self.assertTrue(alike(turned(found), loop))
            self.assertEqual(loop, model.loop())

    def test_after_and_before(self):
        for source, kinds, model, loop, lists in self.draw(2202):
            rows = drawn_rows(source, kinds, 4)
            passed = source.choice([list, tuple])([source.choice([list, tuple])(row) for row in rows])
            as_they_were = [tuple(row) for row in passed]
            for function, reckon in ((after, lambda one: rows + one), (before, lambda one: one + rows)):
                found = function(loop, passed)
                self.assert_whole(found)
                self.assertIn(len(found.registers()), (len(model.starts), len(model.starts) + 1))
                for one in lists:
                    self.assert_plain(found.run(one), model.run(reckon(one)))
            self.assertEqual([tuple(row) for row in passed], as_they_were)
            self.assertEqual(loop, model.loop())

    def test_the_empty_list_of_rows(self):
        for rows in ([], ()):
            self.assertTrue(alike(after(SUMS, rows), SUMS))
            self.assertTrue(alike(before(SUMS, rows), SUMS))

    def test_later_changes_of_the_rows(self):
        rows = [["row", 3], ("row", 4)]
        found = [after(HORNER, rows), before(HORNER, rows)]
        told = [one.run([("row", 1)]) for one in found]
        rows[0][1] = 9
        rows.append(("row", 7))
        self.assertEqual([one.run([("row", 1)]) for one in found], told)
        self.assertEqual(rows, [["row", 9], ("row", 4), ("row", 7)])

    def test_bad_rows(self):
        before_texts = loop_text(SUMS)
        for function in (after, before):
            for rows, index in (([("row", 1), ("row",)], 1), ([None], 0), ([("row", 1), ("row", 2), ("row", True)], 2),
                                ([("row", 1.5), "row"], 0), ([("row", 1), "row", None], 1), ((("now", 1),), 0),
                                ([("row", 1, 2)], 0), ([mock.ANY], 0)):
                self.assert_error(BadRow, {"index": index}, function, SUMS, rows)
        self.assertEqual(loop_text(SUMS), before_texts)

    def test_running(self):
        for _, _, model, loop, lists in self.draw(2203):
            found = running(loop)
            self.assert_whole(found)
            self.assertIn(len(found.registers()), (len(model.starts), len(model.starts) + 1))
            for rows in lists:
                expected = [model.run(rows[:k + 1]) for k in range(len(rows))]
                self.assert_plain(found.run(rows), sum(expected, Fraction(0)))
            self.assertEqual(loop, model.loop())
        self.assertEqual(running(HORNER).run([]), 0)


class OnlyTest(BuiltTest):
    def test_the_kinds_that_are_left(self):
        for source, kinds, model, loop, lists in self.draw(2204):
            names = [kind for kind, _ in kinds]
            kept = [name for name in names if source.random() < 0.6]
            passed = source.choice([list, tuple])(source.sample(kept, len(kept)) + kept[:1])
            found = only(loop, passed)
            self.assert_whole(found)
            self.assertEqual(found.rows, Rows([[kind, fields] for kind, fields in kinds if kind in kept]))
            self.assertEqual(found.registers(), list(model.starts))
            self.assertEqual(found.told(), loop.told())
            for kind in kept:
                for name in model.starts:
                    self.assertEqual(found.change(kind, name), loop.change(kind, name))
            for rows in lists:
                rows = [row for row in rows if row[0] in kept]
                self.assert_plain(found.run(rows), model.run(rows))
            self.assertEqual(loop, model.loop())

    def test_kinds_in_another_order_and_twice(self):
        rows = Rows([["a", ["x"]], ["b", []], ["c", ["y"]]])
        loop = Loop(rows, {"s": 1}, {"a": {"s": "s + x"}, "c": {"s": "y*s"}}, "s")
        expected = Loop(Rows([["a", ["x"]], ["c", ["y"]]]), {"s": 1}, {"a": {"s": "s + x"}, "c": {"s": "y*s"}}, "s")
        for kinds in (["c", "a"], ("a", "c"), ["c", "a", "c", "a"]):
            self.assertEqual(only(loop, kinds), expected)
        self.assertEqual(only(loop, ["c", "b", "a"]), loop)
        self.assertEqual(only(loop, []), Loop(Rows([]), {"s": 1}, {}, "s"))
        kinds = ["b"]
        found = only(loop, kinds)
        kinds.append("a")
        self.assertEqual(found.rows.kinds(), ["b"])

    def test_names_that_are_no_kinds(self):
        for thing in ANY_OBJECTS:
            self.assert_error(NoKind, {"kind": thing}, only, SUMS, [thing])
            self.assert_error(NoKind, {"kind": thing}, only, SUMS, ["row", "row", thing, "other"])


class LedTest(BuiltTest):
    def drawn_poly(self, source, fields):
        terms = {}
        for _ in range(source.randint(0, 3)):
            terms[tuple([source.choice([0, 0, 1, 2]) for _ in fields])] = number_of(drawn_number(source))
        return Poly(fields, terms)

    def test_drawn_ways(self):
        for source, kinds, model, loop, _ in self.draw(2301, 80):
            others = source.choice(KINDS)
            ways = {}
            for kind, fields in others:
                ways[kind] = []
                for _ in range(source.randint(0, 3) if kinds else 0):
                    target, places = source.choice(kinds)
                    ways[kind].append((target, [self.drawn_poly(source, fields) for _ in places]))
            rows = Rows(others)
            found = led(loop, rows, ways)
            self.assert_whole(found)
            self.assertEqual(found.rows, rows)
            self.assertIn(len(found.registers()), (len(model.starts), len(model.starts) + 1))
            for _ in range(6):
                one = drawn_rows(source, others, 4)
                through = [(target, *[poly.at(row[1:]) for poly in polys])
                           for row in one for target, polys in ways[row[0]]]
                self.assert_plain(found.run(one), model.run(through))
            self.assertEqual(loop, model.loop())

    def test_small_ways(self):
        pairs = Rows([["pair", ["u", "v"]], ["skip", []]])
        x = [Poly(["u", "v"], {(1, 0): 1}), Poly(["u", "v"], {(0, 1): 1})]
        found = led(HORNER, pairs, {"pair": [("row", [x[0]]), ["row", (x[1] * x[1] + 1,)]], "skip": [], "more": "any"})
        self.assertEqual(found.run([("pair", 3, 2), ("skip",), ("pair", 1, 0)]),
                         HORNER.run([("row", 3), ("row", 5), ("row", 1), ("row", 1)]))
        self.assertEqual(found.powers(), {"pair": [1, 2], "skip": []})
        # A row that leads to itself twice.
        self.assertEqual(led(HORNER, NUMBERS, {"row": [("row", [Poly(["x"], {(1,): 1})])] * 2}).run([("row", 7)]),
                         HORNER.run([("row", 7)] * 2))
        self.assertEqual(led(HORNER, Rows([]), {}).run([]), HORNER.run([]))

    def test_registers_that_are_fields_of_the_other_rows(self):
        loop = Loop(Rows([["go", []]]), {"x": 1, "ra": 2}, {"go": {"x": "x + ra", "ra": "2*x"}}, "x")
        found = led(loop, Rows([["row", ["x", "ra"]]]), {"row": [("go", []), ("go", [])]})
        self.assert_whole(found)
        self.assertEqual(found.run([("row", 5, 6)]), loop.run([("go",), ("go",)]))

    def test_later_changes_of_ways(self):
        polys = [Poly(["x"], {(1,): 2})]
        ways = {"row": [("row", polys)]}
        found = led(HORNER, NUMBERS, ways)
        told = found.run([("row", 3)])
        self.assertEqual(told, HORNER.run([("row", 6)]))
        polys[0] = Poly(["x"], {})
        ways["row"].append(("row", polys))
        self.assertEqual(found.run([("row", 3)]), told)
        self.assertEqual(len(ways["row"]), 2)

    def test_errors_and_their_order(self):
        rows = Rows([["a", ["u"]], ["b", ["u", "v"]]])
        u, both, wrong = Poly(["u"], {(1,): 1}), Poly(["u", "v"], {(1, 1): 1}), Poly(["v", "u"], {})
        fine = {"a": [("row", [u])], "b": [("row", [both])]}
        self.assertEqual(led(SUMS, rows, fine).run([("a", 2), ("b", 3, 4)]), SUMS.run([("row", 2), ("row", 12)]))
        for ways, error, attributes in (
                ({}, NoWay, {"kind": "a"}), ({"b": [("row", [both])]}, NoWay, {"kind": "a"}),
                ({"a": [("row", [u])]}, NoWay, {"kind": "b"}), ({"a": [("now", [u])]}, NoKind, {"kind": "now"}),
                ({"a": [("now", [])], "b": [("row", [both])]}, NoKind, {"kind": "now"}),
                ({**fine, "a": [("row", [])]}, WrongCount, {"count": 0}),
                ({**fine, "a": [("row", [u, u])]}, WrongCount, {"count": 2}),
                ({**fine, "a": [("row", [wrong, u])]}, WrongCount, {"count": 2}),
                ({**fine, "a": [("row", [both])]}, OtherFields, {}), ({**fine, "b": [("row", [u])]}, OtherFields, {}),
                ({**fine, "b": [("row", [wrong])]}, OtherFields, {}),
                # Pair by pair, and kind by kind.
                ({"a": [("row", [both]), ("now", [])], "b": []}, OtherFields, {}),
                ({"a": [("row", [u]), ("now", [u, u]), ("row", [both])], "b": []}, NoKind, {"kind": "now"}),
                ({"a": [("row", [both])]}, OtherFields, {}),
                ({"b": [("now", [])], "a": [("row", [])]}, WrongCount, {"count": 0}),
                ({"b": [("now", [])], "a": [("row", [u])]}, NoKind, {"kind": "now"})):
            self.assert_error(error, attributes, led, SUMS, rows, ways)
        for thing in ANY_OBJECTS:
            self.assert_error(NoKind, {"kind": thing}, led, SUMS, rows, {"a": [(thing, [])], "b": []})
        self.assertEqual(SUMS, Loop(NUMBERS, {"s": 0, "p": 0, "q": 0}, {
            "row": {"s": "s + x", "p": "p + x*s", "q": "q + x^2"}}, "p"))


class BesideTest(BuiltTest):
    def test_registers_of_both(self):
        for source, kinds, model, loop, lists in self.draw(2401):
            more = drawn_model(source, kinds, ["w", "v", "aa"][:source.randint(0, 3)], 3)
            found = beside(loop, more.loop())
            self.assert_whole(found)
            self.assertEqual(found.registers(), [*model.starts, *more.starts])
            self.assertEqual(found.told(), loop.told())
            for rows in lists:
                self.assert_plain(found.run(rows), model.run(rows))
                behind = {name: value(number) for name, number in found.behind(rows).items()}
                self.assertEqual(list(behind.items()), [*model.behind(rows).items(), *more.behind(rows).items()])
            self.assertEqual(loop, model.loop())

    def test_relations_between_both(self):
        total = Loop(NUMBERS, {"t": 5}, {"row": {"t": "t + x"}}, "t")
        self.assertEqual([str(one) for one in relations(beside(SUMS, total), 1)], ["t - s - 5 = 0"])

    def test_names_in_use(self):
        other = Loop(NUMBERS, {"z": 0, "q": 0, "s": 0}, {}, "0")
        self.assert_error(NameInUse, {"name": "q"}, beside, SUMS, other)
        self.assert_error(NameInUse, {"name": "s"}, beside, other, SUMS)
        self.assert_error(NameInUse, {"name": "s"}, beside, SUMS, SUMS)
        # Other rows are told first.
        self.assert_error(UnlikeRows, {}, beside, SUMS, Loop(Rows([]), {"s": 0}, {}, "0"))
        none = Loop(NUMBERS, {}, {}, "7")
        self.assertEqual(beside(none, none), none)
        self.assertEqual(beside(SUMS, none), SUMS)


class WholeTest(BuiltTest):
    def test_built_of_built_loops(self):
        twice = turned(running(SUMS))
        rows = [("row", 3), ("row", Ratio(1, 2)), ("row", -4)]
        self.assertEqual(twice.run(rows), sum([SUMS.run(rows[::-1][:k + 1]) for k in range(3)], Ratio(0)))
        self.assertTrue(alike(least(twice), twice))
        self.assertTrue(alike(turned(least(SUMS)), SUMS))

    def test_soon(self):
        begun = time.monotonic()
        source = random.Random(2402)
        kinds = [(kind, ["x", "y", "z"]) for kind in ("k", "l", "m", "n")]
        one, other = [drawn_model(source, kinds, names, 4) for names in (["a", "b"], ["c", "d"])]
        both = product(one.loop(), other.loop())
        self.assertTrue(alike(both, product(other.loop(), one.loop())) or len(both.registers()) > 6)
        rows = [drawn_row(source, kinds) for _ in range(8)]
        self.assert_plain(both.run(rows), one.run(rows) * other.run(rows))
        ways = {}
        for kind, fields in kinds:
            polys = [Poly(fields, {(2, 1, 0): 1, (0, 0, 2): Ratio(1, 2)}), Poly(fields, {(1, 1, 1): 3}),
                     Poly(fields, {(0, 2, 2): -1})]
            ways[kind] = [(target, [poly] * 3) for target, poly in zip("klk", polys)]
        found = led(one.loop(), Rows(kinds), ways)
        self.assertTrue(alike(found, least(found)))
        self.assertTrue(alike(turned(turned(found)), found))
        self.assertLess(time.monotonic() - begun, 30)


if __name__ == "__main__":
    unittest.main()
