"""Points [19] and [20]: Exchange, exchange, orderless, idle, idle_fields, once, undoes."""

import random
import time
import unittest
from fractions import Fraction
from unittest import mock

from reckoning import Model, drawn_model, drawn_row, drawn_rows, grid_lists, number_of

from everylist.errors import ListError, NoKind, UnlikeFields
from everylist.loops import Loop
from everylist.orders import Exchange, exchange, idle, idle_fields, once, orderless, undoes
from everylist.polys import Poly
from everylist.ratios import Ratio
from everylist.rows import Rows
from everylist.texts import loop_text

THIRTY = 10 ** 30 - 1
NUMBERS = Rows([["row", ["x"]]])
HORNER = Loop(NUMBERS, {"h": 0}, {"row": {"h": "10*h + x"}}, "h")
SUMS = Loop(NUMBERS, {"s": 0, "p": 0, "q": 0}, {"row": {"s": "s + x", "p": "p + x*s", "q": "q + x^2"}}, "p")
ANY_OBJECTS = (None, True, 0, 1.5, "", "x", "rows", "Row", b"row", ["row"], ("row",), {"row"}, {"row": 1}, object(),
               Ratio(1), Poly([], {}), NUMBERS, mock.ANY)
# Kinds whose grids have few rows, and how many registers are drawn.
SMALL = (
    ([("go", [])], 2), ([("up", []), ("down", [])], 3), ([("row", ["x"])], 2), ([("row", ["x"]), ("note", [])], 2),
    ([("b", ["x", "y"])], 1), ([("b", ["x"]), ("a", ["y"])], 2), ([("c", []), ("b", ["x", "y"])], 1),
)


def swapped(rows, place):
    return rows[:place] + [rows[place + 1], rows[place]] + rows[place + 2:]


def first_exchange(model, kind, other, most):
    """The first list of at most so many rows with neighbours that cannot change places, and their first place."""
    for rows in grid_lists(model.kinds, model.powers(), most):
        for place in range(len(rows) - 1):
            if (rows[place][0], rows[place + 1][0]) == (kind, other):
                if model.run(rows) != model.run(swapped(rows, place)):
                    return rows, place
    return None


def near_rows(model, source, kinds):
    """What stands in front and behind, drawn and from the grid: pairs of lists."""
    lists = grid_lists(model.kinds, model.powers(), 1)[:6] + [drawn_rows(source, kinds, 3) for _ in range(4)]
    return [(front, behind) for front in lists for behind in lists]


class OrdersTest(unittest.TestCase):
    def assert_exchange(self, found, rows, place):
        self.assertIs(type(found), Exchange)
        self.assertEqual((found.rows, found.place), (rows, place))
        self.assertIs(type(found.rows), list)
        self.assertEqual([type(row) for row in found.rows], [tuple] * len(rows))
        for row in found.rows:
            self.assertEqual([type(number) for number in row[1:]], [int] * (len(row) - 1))
        self.assertIs(type(found.place), int)

    def assert_no_kind(self, thing, function, *given):
        with self.assertRaises(NoKind) as caught:
            function(*given)
        self.assertIs(caught.exception.kind, thing)
        self.assertIsInstance(caught.exception, ListError)


class ExchangeTest(OrdersTest):
    def test_the_example_of_the_document(self):
        told = [orderless(SUMS), exchange(HORNER, "row", "row").rows, exchange(HORNER, "row", "row").place]
        self.assertEqual(repr(told), "[True, [('row', 0), ('row', 1)], 0]")
        self.assertIsNone(exchange(SUMS, "row", "row"))

    def test_small_loops(self):
        shop = Rows([["set", ["x"]], ["add", ["x"]], ["note", []]])
        loop = Loop(shop, {"t": 0, "n": 0}, {"set": {"t": "x"}, "add": {"t": "t + x"}, "note": {"n": "n + t"}}, "t")
        self.assert_exchange(exchange(loop, "set", "add"), [("set", 0), ("add", 1)], 0)
        self.assert_exchange(exchange(loop, "add", "set"), [("add", 1), ("set", 0)], 0)
        self.assert_exchange(exchange(loop, "set", "set"), [("set", 0), ("set", 1)], 0)
        self.assertIsNone(exchange(loop, "add", "add"))
        for kind in ("set", "add", "note"):
            self.assertIsNone(exchange(loop, "note", kind))
            self.assertIsNone(exchange(loop, kind, "note"))
        noted = Loop(shop, {"t": 0, "n": 0}, {"set": {"t": "x"}, "add": {"t": "t + x"}, "note": {"n": "n + t"}}, "n")
        self.assert_exchange(exchange(noted, "set", "add"), [("set", 0), ("add", 1), ("note",)], 0)
        self.assert_exchange(exchange(noted, "set", "note"), [("set", 1), ("note",)], 0)
        # In front something is to stand that the row sets.
        self.assert_exchange(exchange(noted, "note", "set"), [("note",), ("set", 1)], 0)
        self.assertIsNone(exchange(noted, "note", "note"))

    def test_the_list_is_the_first_and_not_its_front(self):
        # Two rows g in front, or one row a behind in their place: the lists have other orders.
        rows = Rows([["a", []], ["g", []], ["k", []], ["l", []]])
        changes = {"g": {"f": "1"}, "k": {"u": "f"}, "l": {"u": "0"}}
        loop = Loop(rows, {"f": 0, "u": 0}, changes, "u")
        self.assert_exchange(exchange(loop, "k", "l"), [("g",), ("k",), ("l",)], 1)
        self.assert_exchange(exchange(loop, "l", "k"), [("g",), ("l",), ("k",)], 1)
        late = Loop(rows, {"f": 0, "u": 0, "v": 0}, {**changes, "a": {"v": "u"}}, "v")
        self.assert_exchange(exchange(late, "k", "l"), [("g",), ("k",), ("l",), ("a",)], 1)
        # With a row a in front and with it behind they are seen: a k l comes before k l a.
        changes = {"k": {"u": "2*u + 1"}, "l": {"u": "3*u"}, "a": {"v": "u", "f": "1"}}
        either = Loop(rows, {"f": 0, "u": 0, "v": 0}, changes, "v")
        self.assert_exchange(exchange(either, "k", "l"), [("k",), ("l",), ("a",)], 0)

    def test_the_least_place(self):
        # What is told is the number of the last row but two, or but one.
        rows = Rows([["go", ["x"]]])
        loop = Loop(rows, {"a": 0, "b": 0, "c": 0}, {"go": {"a": "x", "b": "a", "c": "b"}}, "c")
        self.assert_exchange(exchange(loop, "go", "go"), [("go", 0), ("go", 1), ("go", 0)], 0)
        loop = Loop(rows, {"a": 0, "b": 0}, {"go": {"a": "x", "b": "a"}}, "b")
        self.assert_exchange(exchange(loop, "go", "go"), [("go", 0), ("go", 1)], 0)
        # Of three rows the first, twice the second and three times the third number, of other lists 0: neighbours at
        # place 0 and at place 1 cannot change places.
        changes = {"g": "0", "h": "g", "i": "h", "a": "x*g", "b": "a + 2*x*h", "c": "b + 3*x*i"}
        for fields in (["x"], ["x", "y"], ["y", "x"]):
            loop = Loop(Rows([["go", fields]]), {"g": 1, "h": 0, "i": 0, "a": 0, "b": 0, "c": 0}, {"go": changes}, "c")
            row = ("go", *[1 if field == "x" else 0 for field in fields])
            zero = ("go", *[0 for _ in fields])
            self.assert_exchange(exchange(loop, "go", "go"), [zero, zero, row], 1)
        # Neighbours at place 1 alone matter: the row g in front is needed.
        rows = Rows([["g", []], ["k", []], ["l", []]])
        loop = Loop(rows, {"f": 0, "u": 1}, {"g": {"f": "f + 1"}, "k": {"u": "u + f"}, "l": {"u": "2*u"}}, "u")
        self.assert_exchange(exchange(loop, "k", "l"), [("g",), ("k",), ("l",)], 1)

    def test_the_grid_gone_through(self):
        source = random.Random(1901)
        seen = {}
        for _ in range(80):
            for kinds, many in SMALL:
                model = drawn_model(source, kinds, ["a", "b", "c"][:source.randint(0, many)], 2)
                if "b" in model.starts and source.random() < 0.5:
                    self.tell_late(model, source.choice(kinds))
                if source.random() < 0.5:
                    model.starts = {name: Fraction(0) for name in model.starts}
                kind, other = source.choice(kinds)[0], source.choice(kinds)[0]
                most = 4 if len(kinds) + len(kinds[-1][1]) < 3 else 3
                expected = first_exchange(model, kind, other, most)
                found = exchange(model.loop(), kind, other)
                if expected is not None:
                    self.assert_exchange(found, *expected)
                elif found is not None:
                    self.assertGreater(len(found.rows), most)
                    self.assertEqual([row[0] for row in found.rows[found.place:found.place + 2]], [kind, other])
                    self.assertNotEqual(model.run(found.rows), model.run(swapped(found.rows, found.place)))
                key = None if found is None else (len(found.rows), found.place)
                seen[key] = seen.get(key, 0) + 1
        self.assertGreaterEqual(set(seen), {None, (2, 0), (3, 0), (3, 1)})

    def tell_late(self, model, kind_with_fields):
        """Lets the model tell nothing but what another register held before the last row of a kind."""
        model.told = {"a": Fraction(1)}
        for kind, fields in model.kinds:
            source = "b" if (kind, fields) == kind_with_fields else "a"
            model.changes[kind]["a"] = {(source, (0,) * len(fields)): Fraction(1)}

    def test_long_lists_soon(self):
        begun = time.monotonic()
        rows = Rows([[kind, ["x", "y", "z"]] for kind in ("a", "k", "l", "b")])
        changes = {"a": {"e": "f", "f": "x^2*y*z"}, "k": {"g": "g + x^2*z^2*e"}, "l": {"g": "g + y*z*g"},
                   "b": {"h": "g"}}
        loop = Loop(rows, {"e": 0, "f": 0, "g": 0, "h": 0}, changes, "h")
        zero = (0, 0, 0)
        self.assert_exchange(exchange(loop, "k", "l"), [
            ("a", 1, 1, 1), ("a", *zero), ("k", 1, 0, 1), ("l", 0, 1, 1), ("b", *zero)], 2)
        self.assert_exchange(exchange(loop, "l", "k"), [
            ("a", 1, 1, 1), ("a", *zero), ("l", 0, 1, 1), ("k", 1, 0, 1), ("b", *zero)], 2)
        self.assertIsNone(exchange(loop, "k", "k"))
        self.assertLess(time.monotonic() - begun, 20)

    def test_loops_without_registers_and_that_always_tell_the_same(self):
        for loop in (Loop(NUMBERS, {}, {}, "1"), Loop(NUMBERS, {"h": 1}, {"row": {"h": "10*h + x"}}, "h - h + 2")):
            self.assertIsNone(exchange(loop, "row", "row"))
            self.assertTrue(orderless(loop))
        self.assertTrue(orderless(Loop(Rows([]), {"a": 1}, {}, "a")))

    def test_any_objects_that_are_no_kinds(self):
        before = loop_text(HORNER)
        for thing in ANY_OBJECTS:
            self.assert_no_kind(thing, exchange, HORNER, thing, "row")
            self.assert_no_kind(thing, exchange, HORNER, "row", thing)
            self.assert_no_kind(thing, exchange, HORNER, thing, object())
        self.assertEqual(loop_text(HORNER), before)

    def test_what_is_returned_is_new_and_the_loop_stays(self):
        before = loop_text(HORNER)
        found = exchange(HORNER, "row", "row")
        found.rows.append(1)
        found.place = 7
        self.assert_exchange(exchange(HORNER, "row", "row"), [("row", 0), ("row", 1)], 0)
        self.assertEqual(loop_text(HORNER), before)


class OrderlessTest(OrdersTest):
    def test_small_loops(self):
        self.assertIs(orderless(SUMS), True)
        self.assertIs(orderless(HORNER), False)
        shop = Rows([["set", ["x"]], ["add", ["x"]], ["note", []]])
        for changes, expected in (({"add": {"t": "t + x"}, "note": {"t": "t - 1"}}, True),
                                  ({"add": {"t": "t + x"}, "note": {"t": "2*t"}}, False),
                                  ({"add": {"t": "x*t"}, "note": {"t": "2*t"}}, True), ({"set": {"t": "x"}}, False),
                                  ({"set": {"t": "0"}, "note": {"t": "2*t"}}, True), ({}, True)):
            self.assertIs(orderless(Loop(shop, {"t": 1}, changes, "t")), expected, changes)
        # What is not told does not count.
        changes = {"add": {"t": "t + x", "h": "2*h + x"}}
        self.assertTrue(orderless(Loop(shop, {"t": 1, "h": 0}, changes, "t")))
        self.assertFalse(orderless(Loop(shop, {"t": 1, "h": 0}, changes, "t + h")))

    def test_drawn_loops(self):
        source = random.Random(1902)
        seen = {True: 0, False: 0}
        for _ in range(25):
            for kinds, many in SMALL:
                model = drawn_model(source, kinds, ["a", "b", "c"][:source.randint(1, many)], 2)
                found = orderless(model.loop())
                seen[found] += 1
                lists = grid_lists(kinds, model.powers(), 3) + [drawn_rows(source, kinds, 6) for _ in range(20)]
                same = all([model.run(rows) == model.run(swapped(rows, place))
                            for rows in lists for place in range(len(rows) - 1)])
                self.assertIs(found, same)
                for rows in lists[-20:]:
                    if found:
                        self.assertEqual(model.run(rows), model.run(source.sample(rows, len(rows))))
        self.assertGreater(min(seen.values()), 30)


class IdleTest(OrdersTest):
    def test_small_loops(self):
        shop = Rows([["buy", ["price", "many"]], ["note", ["x"]], ["pay", ["x", "y"]]])
        changes = {"buy": {"t": "t + price"}, "note": {"n": "n + x"}, "pay": {"t": "t + y"}}
        loop = Loop(shop, {"t": 0, "n": 0}, changes, "t")
        self.assertEqual(idle(loop), ["note"])
        self.assertEqual([idle_fields(loop, kind) for kind in shop.kinds()], [["many"], ["x"], ["x"]])
        told = Loop(shop, {"t": 0, "n": 0}, {"buy": {"t": "t + price"}, "note": {"n": "n + x"}}, "t + n")
        self.assertEqual(idle(told), ["pay"])
        self.assertEqual(idle_fields(told, "pay"), ["x", "y"])
        self.assertEqual(idle_fields(told, "note"), [])
        # A row that sets what is always so, or that adds what is always 0, does nothing.
        same = Loop(shop, {"t": 3, "z": 0}, {"buy": {"t": "3*t - 6"}, "note": {"t": "t + x*z"}, "pay": {"t": "3"}}, "t")
        self.assertEqual(idle(same), ["buy", "note", "pay"])
        self.assertEqual(idle_fields(same, "note"), ["x"])
        # It does not do nothing without numbers alone.
        self.assertEqual(idle(Loop(shop, {"t": 3}, {"note": {"t": "t + x^2 - x"}}, "t")), ["buy", "pay"])
        self.assertEqual(idle(Loop(shop, {"t": 3}, {"note": {"t": "2*t"}}, "t")), ["buy", "pay"])
        self.assertEqual(idle_fields(Loop(shop, {"t": 3}, {"note": {"t": "2*t"}}, "t"), "note"), ["x"])

    def test_loops_without_registers_and_without_kinds(self):
        self.assertEqual(idle(Loop(Rows([]), {"a": 1}, {}, "a")), [])
        self.assertEqual(idle(Loop(NUMBERS, {}, {}, "1")), ["row"])
        self.assertEqual(idle_fields(Loop(NUMBERS, {}, {}, "1"), "row"), ["x"])
        self.assertEqual(idle_fields(Loop(Rows([["go", []]]), {"a": 1}, {"go": {"a": "a + 1"}}, "a"), "go"), [])

    def test_drawn_loops(self):
        source = random.Random(2001)
        seen = {}
        for _ in range(20):
            for kinds, many in SMALL:
                model = drawn_model(source, kinds, ["a", "b", "c"][:source.randint(1, many)], 2)
                around = near_rows(model, source, kinds)
                found = idle(model.loop())
                self.assertEqual(found, [one for one, fields in kinds if self.does_nothing(model, one, fields, around)])
                seen[len(found)] = seen.get(len(found), 0) + 1
                for kind, fields in kinds:
                    still = [field for k, field in enumerate(fields)
                             if self.number_does_nothing(model, kind, k, fields, around)]
                    self.assertEqual(idle_fields(model.loop(), kind), still)
                    seen["fields", len(still)] = seen.get(("fields", len(still)), 0) + 1
        self.assertGreaterEqual(set(seen), {0, 1, 2, ("fields", 0), ("fields", 1), ("fields", 2)})

    def does_nothing(self, model, kind, fields, around):
        rows = [(kind, *numbers) for numbers in ((0, 0), (1, 2), (-3, 5), (number_of(Fraction(1, 2)), 3))]
        return all([model.run(front + [row[:len(fields) + 1]] + behind) == model.run(front + behind)
                    for front, behind in around for row in rows])

    def number_does_nothing(self, model, kind, k, fields, around):
        for front, behind in around:
            for numbers in ((0, 1), (3, -2)):
                told = set()
                for number in (0, 1, 2, -5):
                    row = [kind, *numbers[:len(fields)]]
                    row[k + 1] = number
                    told.add(model.run(front + [tuple(row)] + behind))
                if len(told) > 1:
                    return False
        return True

    def test_any_objects_that_are_no_kinds(self):
        for thing in ANY_OBJECTS:
            self.assert_no_kind(thing, idle_fields, HORNER, thing)

    def test_what_is_returned_is_new_and_the_loop_stays(self):
        loop = Loop(NUMBERS, {"a": 1}, {}, "a")
        before = loop_text(loop)
        for function, given, expected in ((idle, [], ["row"]), (idle_fields, ["row"], ["x"])):
            found = function(loop, *given)
            self.assertIs(type(found), list)
            found.append("more")
            self.assertEqual(function(loop, *given), expected)
        self.assertEqual(loop_text(loop), before)


class OnceTest(OrdersTest):
    def test_small_loops(self):
        shop = Rows([["set", ["x"]], ["add", ["x"]], ["note", []]])
        changes = {"set": {"t": "x"}, "add": {"t": "t + x"}, "note": {"n": "t", "t": "t"}}
        loop = Loop(shop, {"t": 0, "n": 0}, changes, "t + n")
        self.assertEqual([once(loop, kind) for kind in shop.kinds()], [True, False, True])
        self.assertIs(once(loop, "set"), True)
        self.assertIs(once(loop, "add"), False)
        self.assertTrue(once(Loop(shop, {"t": 0, "n": 0}, changes, "n - n"), "add"))
        # Of n nothing is told before a row of another kind.
        hidden = Loop(shop, {"t": 0, "n": 0}, {"add": {"n": "n + x"}, "set": {"t": "n"}}, "t")
        self.assertFalse(once(hidden, "add"))
        self.assertTrue(once(hidden, "set"))
        # 1/2*x is no whole number, and x*x is x for 0 and 1 alone.
        self.assertFalse(once(Loop(NUMBERS, {"t": 1}, {"row": {"t": "x*t"}}, "t"), "row"))
        self.assertTrue(once(Loop(NUMBERS, {"t": 1}, {"row": {"t": "1/2*x"}}, "t"), "row"))
        for text, expected in (("1/2*t + 1/2*u", True), ("1/2*t + 1/3*u", False)):
            mean = Loop(NUMBERS, {"t": 1, "u": 2}, {"row": {"t": text, "u": "1/2*t + 1/2*u"}}, "t")
            self.assertIs(once(mean, "row"), expected)

    def test_numbers_with_which_one_can_be_left_out_are_not_all(self):
        rows = Rows([["row", ["x", "y", "z"]], ["more", ["u", "v", "w"]]])
        for place, field in enumerate("xyz"):
            for number in range(6):
                loop = Loop(rows, {"t": 1}, {"row": {"t": f"t + {field} - {number}"}}, "t")
                self.assertFalse(once(loop, "row"))
                self.assertTrue(once(loop, "more"))
                self.assertFalse(undoes(loop, "row", "more"))
                self.assertFalse(undoes(loop, "more", "row"))
                self.assertTrue(undoes(loop, "more", "more"))
                loop = Loop(rows, {"t": 1}, {"more": {"t": f"{'uvw'[place]}*t - {number}*t + t"}}, "t")
                self.assertFalse(once(loop, "more"))
                self.assertFalse(undoes(loop, "row", "more"))

    def test_loops_without_registers(self):
        self.assertTrue(once(Loop(NUMBERS, {}, {}, "1"), "row"))

    def test_drawn_loops(self):
        source = random.Random(2002)
        seen = {True: 0, False: 0}
        for _ in range(30):
            for kinds, many in SMALL:
                model = drawn_model(source, kinds, ["a", "b", "c"][:source.randint(1, many)], 2)
                kind, fields = source.choice(kinds)
                around = near_rows(model, source, kinds)
                found = once(model.loop(), kind)
                self.assertIs(found, self.is_once(model, kind, fields, around))
                seen[found] += 1
        self.assertGreater(min(seen.values()), 25)

    def is_once(self, model, kind, fields, around):
        rows = [(kind, *numbers[:len(fields)])
                for numbers in ((0, 0), (1, 2), (2, 1), (-3, 5), (number_of(Fraction(1, 2)), 3))]
        return all([model.run(front + [row, row] + behind) == model.run(front + [row] + behind)
                    for front, behind in around for row in rows])

    def test_any_objects_that_are_no_kinds(self):
        for thing in ANY_OBJECTS:
            self.assert_no_kind(thing, once, HORNER, thing)


class UndoesTest(OrdersTest):
    def test_small_loops(self):
        shop = Rows([["add", ["x", "y"]], ["sub", ["u", "v"]], ["turn", []], ["back", []], ["twice", ["x"]]])
        changes = {"add": {"t": "t + x*y"}, "sub": {"t": "t - u*v"}, "turn": {"t": "-t"}, "back": {"t": "1/2*t"},
                   "twice": {"t": "2*t"}}
        loop = Loop(shop, {"t": 1}, changes, "t")
        self.assertIs(undoes(loop, "add", "sub"), True)
        self.assertIs(undoes(loop, "sub", "add"), True)
        self.assertIs(undoes(loop, "add", "add"), False)
        self.assertIs(undoes(loop, "turn", "turn"), True)
        self.assertIs(undoes(loop, "turn", "back"), False)
        self.assertIs(undoes(loop, "back", "back"), False)
        # The numbers are the same by their places, not by the names of the fields.
        other = Loop(shop, {"t": 1}, {"add": {"t": "t + x"}, "sub": {"t": "t - v"}}, "t")
        self.assertFalse(undoes(other, "add", "sub"))
        # What is kept is got back; but a third row could get it once more.
        pair = Rows([["keep", []], ["get", []]])
        self.assertFalse(undoes(Loop(pair, {"t": 1, "k": 2}, {"keep": {"k": "t", "t": "0"}, "get": {"t": "k"}}, "t"),
                                "keep", "get"))
        turned = {"keep": {"k": "t", "t": "-k"}, "get": {"t": "k", "k": "-t"}}
        self.assertTrue(undoes(Loop(pair, {"t": 1, "k": 2}, turned, "t"), "keep", "get"))
        halves = Loop(pair, {"t": 1}, {"keep": {"t": "1/2*t"}, "get": {"t": "2*t"}}, "t")
        self.assertTrue(undoes(halves, "keep", "get"))
        self.assertTrue(undoes(halves, "get", "keep"))

    def test_loops_without_registers(self):
        self.assertTrue(undoes(Loop(NUMBERS, {}, {}, "1"), "row", "row"))

    def test_drawn_loops(self):
        source = random.Random(2003)
        seen = {True: 0, False: 0}
        for _ in range(30):
            for kinds, many in (*SMALL, ([("up", ["x"]), ("down", ["y"])], 1), ([("go", [])], 2)):
                model = drawn_model(source, kinds, ["a", "b", "c"][:source.randint(1, many)], 2)
                kind, fields = source.choice(kinds)
                others = [other for other, more in kinds if len(more) == len(fields)]
                other = source.choice(others)
                if source.random() < 0.3:
                    self.make_undone(model, kind, other, source)
                around = near_rows(model, source, kinds)
                found = undoes(model.loop(), kind, other)
                self.assertIs(found, self.is_undone(model, kind, other, fields, around))
                seen[found] += 1
        self.assertGreater(min(seen.values()), 25)

    def make_undone(self, model, kind, other, source):
        """Lets rows of a kind add what rows of the other one take."""
        fields = dict(model.kinds)[kind]
        name = list(model.starts)[0]
        none = (0,) * len(fields)
        powers = tuple([source.randint(0, 2) for _ in fields])
        for other_kind, sign in ((kind, 1), (other, -1)):
            for register in model.starts:
                model.changes[other_kind][register] = {(register, none): Fraction(1)}
            if kind != other:
                model.changes[other_kind][name] = {(name, none): Fraction(1), ("1", powers): Fraction(sign)}

    def is_undone(self, model, kind, other, fields, around):
        numbers = [one[:len(fields)] for one in ((0, 0), (1, 2), (2, 1), (-3, 5), (number_of(Fraction(1, 2)), 3))]
        return all([model.run(front + [(kind, *one), (other, *one)] + behind) == model.run(front + behind)
                    for front, behind in around for one in numbers])

    def test_wrong_kinds_and_fields(self):
        loop = Loop(Rows([["a", ["x", "y"]], ["b", ["x"]], ["c", []]]), {}, {}, "1")
        before = loop_text(loop)
        for thing in ANY_OBJECTS:
            self.assert_no_kind(thing, undoes, loop, thing, "b")
            self.assert_no_kind(thing, undoes, loop, "b", thing)
            self.assert_no_kind(thing, undoes, loop, thing, None)
        for kind, other in (("a", "b"), ("b", "a"), ("c", "b"), ("a", "c")):
            with self.assertRaises(UnlikeFields) as caught:
                undoes(loop, kind, other)
            self.assertIsInstance(caught.exception, ListError)
        for kind in ("a", "b", "c"):
            self.assertTrue(undoes(loop, kind, kind))
        self.assertEqual(loop_text(loop), before)


class SoonTest(OrdersTest):
    def test_dense_loops_and_long_numbers(self):
        begun = time.monotonic()
        source = random.Random(2004)
        kinds = [(kind, ["x", "y", "z"]) for kind in ("a", "b", "c", "d")]
        model = drawn_model(source, kinds, ["k", "l", "m", "n"], 8)
        for kind, _ in kinds:
            for name in ("k", "l"):
                model.changes[kind][name][("m", (1, 0, 2))] = Fraction(THIRTY, source.randint(1, THIRTY))
        loop = model.loop()
        self.assertFalse(orderless(loop))
        self.assertEqual(idle(loop), [])
        self.assertFalse(once(loop, "a"))
        self.assertFalse(undoes(loop, "a", "b"))
        found = exchange(loop, "c", "d")
        self.assertNotEqual(model.run(found.rows), model.run(swapped(found.rows, found.place)))
        self.assertLess(time.monotonic() - begun, 20)


class RowsTest(unittest.TestCase):
    def test_the_reckoning_of_neighbours(self):
        model = Model([("row", ["x"])], {"h": 0}, {"row": {"h": {("h", (0,)): 10, ("1", (1,)): 1}}}, {"h": 1})
        self.assertEqual(first_exchange(model, "row", "row", 2), ([("row", 0), ("row", 1)], 0))
        self.assertEqual(swapped([1, 2, 3, 4], 1), [1, 3, 2, 4])
        self.assertEqual(len(drawn_row(random.Random(1), model.kinds)), 2)


if __name__ == "__main__":
    unittest.main()
