"""Points [10] and [11] and what [13] says of powers(): Loop."""

import copy
import random
import unittest
from fractions import Fraction
from unittest import mock

from everylist.errors import BadName, BadNumber, BadRow, BadSum, NoKind, NoRegister
from everylist.loops import Loop, loop_of_parts
from everylist.polys import Poly
from everylist.ratios import Ratio
from everylist.rows import Rows

THIRTY = 10 ** 30 - 1
LONG = Ratio(-THIRTY, THIRTY - 1)
SHOP = Rows([["buy", ["price", "many"]], ["note", []], ["pay", ["sum"]]])
STARTS = {"total": 0, "count": Ratio(1, 2)}
CHANGES = {"buy": {"total": "price*many + total", "count": "count + 1"}, "pay": {"total": "total - sum + 2*count"}}
TOLD = "total - 1/2*count"
ANY_OBJECTS = [None, True, False, 0, 1, -1, 1.5, "", "2", "A", "x1", "x ", "abcdefghi", "totals", "tota", b"buy",
               b"total", b"1", [], ["buy"], ["total"], ["1"], (), ("buy",), ("total",), {}, {"total"}, {"total": 1},
               object(), Ratio(1, 2), Rows([]), Poly([], {}), len, mock.ANY]


def bill():
    return Loop(SHOP, STARTS, CHANGES, TOLD)


def is_hashable(thing):
    return type(thing).__hash__ is not None


def value(number):
    """The Fraction of a number of the package."""
    return Fraction(number) if isinstance(number, int) else Fraction(number.top, number.bottom)


class LoopTest(unittest.TestCase):
    def assert_plain(self, number, expected):
        """Asserts that a number has this value and is an integer if it is whole."""
        self.assertEqual(value(number), expected)
        self.assertIs(type(number), int if Fraction(expected).denominator == 1 else Ratio)


class MadeTest(LoopTest):
    def test_rows_registers_and_starts(self):
        loop = bill()
        self.assertIs(loop.rows, SHOP)
        self.assertEqual(loop.registers(), ["total", "count"])
        self.assert_plain(loop.start("total"), 0)
        self.assert_plain(loop.start("count"), Fraction(1, 2))

    def test_starts_are_plain(self):
        loop = Loop(SHOP, {"a": Ratio(8, 4), "b": Ratio(0), "c": LONG, "d": THIRTY}, {}, "0")
        for name, expected in (("a", 2), ("b", 0), ("c", value(LONG)), ("d", THIRTY)):
            self.assert_plain(loop.start(name), expected)
            self.assert_plain(loop.behind([])[name], expected)

    def test_registers_in_order(self):
        names = ["z", "abcdefgh", "m", "a", "buy", "rows", "start", "tell"]
        loop = Loop(SHOP, {name: 0 for name in names}, {}, "a + z")
        self.assertEqual(loop.registers(), names)
        self.assertEqual(list(loop.behind([("note",)])), names)
        self.assertEqual(loop.told(), "z + a")

    def test_parts(self):
        loop = bill()
        buy, pay = ["price", "many"], ["sum"]
        for kind, name, source, fields, terms in (
                ("buy", "total", "total", buy, {(0, 0): 1}), ("buy", "total", "1", buy, {(1, 1): 1}),
                ("buy", "total", "count", buy, {}), ("buy", "count", "count", buy, {(0, 0): 1}),
                ("buy", "count", "1", buy, {(0, 0): 1}), ("buy", "count", "total", buy, {}),
                ("pay", "total", "total", pay, {(0,): 1}), ("pay", "total", "count", pay, {(0,): 2}),
                ("pay", "total", "1", pay, {(1,): -1})):
            self.assertEqual(loop.part(kind, name, source), Poly(fields, terms))
            self.assertIs(type(loop.part(kind, name, source)), Poly)

    def test_registers_and_kinds_that_are_not_mentioned(self):
        for loop in (bill(), Loop(SHOP, STARTS, {"note": {}, **CHANGES}, TOLD)):
            for kind, name, fields in (("note", "total", []), ("note", "count", []), ("pay", "count", ["sum"])):
                for source in ("total", "count", "1"):
                    terms = {(0,) * len(fields): 1} if source == name else {}
                    self.assertEqual(loop.part(kind, name, source), Poly(fields, terms))
                self.assertEqual(loop.change(kind, name), name)
            self.assertEqual(loop.behind([("note",), ("note",)]), {"total": 0, "count": Ratio(1, 2)})

    def test_told_parts(self):
        loop = bill()
        self.assert_plain(loop.told_part("total"), 1)
        self.assert_plain(loop.told_part("count"), Fraction(-1, 2))
        self.assert_plain(loop.told_part("1"), 0)
        loop = Loop(SHOP, STARTS, {}, "4/2 - total + total")
        self.assert_plain(loop.told_part("total"), 0)
        self.assert_plain(loop.told_part("1"), 2)

    def test_one_texts(self):
        loop = Loop(SHOP, STARTS, {"buy": {"total": "1 - many*2*count*price + total*4/2", "count": "total - total"},
                                   "pay": {"count": "count"}}, "3 + count*2/4 - 1*total")
        self.assertEqual(loop.change("buy", "total"), "2*total - 2*price*many*count + 1")
        self.assertEqual(loop.change("buy", "count"), "0")
        self.assertEqual(loop.change("pay", "count"), "count")
        self.assertEqual(loop.change("pay", "total"), "total")
        self.assertEqual(loop.told(), "-total + 1/2*count + 3")
        self.assertEqual(Loop(SHOP, {}, {}, "0*1").told(), "0")

    def test_without_registers(self):
        loop = Loop(SHOP, {}, {"buy": {}, "note": {}}, "5/2")
        self.assertEqual((loop.registers(), loop.told()), ([], "5/2"))
        self.assertEqual(loop.behind([("note",)]), {})
        self.assert_plain(loop.run([("buy", 1, 2)]), Fraction(5, 2))
        self.assertEqual(loop.powers(), {"buy": [0, 0], "note": [], "pay": [0]})
        with self.assertRaises(BadSum):
            Loop(SHOP, {}, {}, "total")

    def test_without_kinds(self):
        loop = Loop(Rows([]), {"s": 3}, {}, "s + 1")
        self.assertEqual((loop.run([]), loop.behind([]), loop.powers()), (4, {"s": 3}, {}))

    def test_a_field_of_another_kind_is_no_field_here(self):
        for kind, text in (("note", "price"), ("pay", "price*total"), ("buy", "sum")):
            with self.assertRaises(BadSum):
                Loop(SHOP, STARTS, {kind: {"total": text}}, TOLD)
        rows = Rows([["a", ["x", "y"]], ["b", ["y", "x"]]])
        loop = Loop(rows, {"s": 0}, {"a": {"s": "x + 10*y"}, "b": {"s": "s + 100*x + 1000*y"}}, "s")
        self.assertEqual(loop.run([("a", 1, 2), ("b", 3, 4)]), 21 + 400 + 3000)

    def test_what_was_passed_stays_and_may_be_changed(self):
        starts, changes = dict(STARTS), copy.deepcopy(CHANGES)
        loop = Loop(SHOP, starts, changes, TOLD)
        loop.run([("buy", 1, 2)])
        self.assertEqual((list(starts.items()), changes), (list(STARTS.items()), CHANGES))
        starts["total"] = 7
        starts["more"] = 8
        changes["buy"]["total"] = "0"
        changes["note"] = {"total": "5"}
        changes["pay"].clear()
        self.assertEqual(loop, bill())
        self.assertEqual(loop.behind([("note",), ("buy", 3, 4)]), {"total": 12, "count": Ratio(3, 2)})

    def test_what_is_returned_is_new(self):
        loop = bill()
        loop.registers().append("more")
        loop.behind([])["total"] = 7
        loop.behind([("note",)]).clear()
        loop.powers()["buy"][0] = 7
        loop.powers().clear()
        loop.part("buy", "total", "1").terms().clear()
        self.assertEqual(loop, bill())
        self.assertEqual(loop.registers(), ["total", "count"])
        self.assertEqual(loop.behind([]), STARTS)
        self.assertEqual(loop.powers(), {"buy": [1, 1], "note": [], "pay": [1]})


class MadeWronglyTest(unittest.TestCase):
    def assert_raises(self, error, attribute, held, starts, changes, told):
        before = (list(starts.items()), copy.copy(changes))
        with self.assertRaises(error) as caught:
            Loop(SHOP, starts, changes, told)
        self.assertIs(getattr(caught.exception, attribute), held)
        self.assertEqual((list(starts.items()), changes), before)

    def assert_bad_sum(self, text, changes, told):
        self.assert_raises(BadSum, "text", text, STARTS, changes, told)

    def test_registers_that_are_no_names(self):
        for thing in ("", "A", "aB", "x1", "1", "x ", " x", "a_b", "abcdefghi", "x\n", None, True, False, 0, 1, 1.5,
                      b"s", (), ("s",), object(), len, frozenset(["s"])):
            self.assert_raises(BadName, "name", thing, {thing: 0}, {}, "0")
            self.assert_raises(BadName, "name", thing, {"s": 0, thing: 1, "B": 2}, {}, "0")

    def test_registers_that_are_fields(self):
        for name in ("price", "many", "sum"):
            self.assert_raises(BadName, "name", name, {name: 0}, {}, "0")
            self.assert_raises(BadName, "name", name, {"s": 0, name: 1, "": 2}, {}, "0")
        self.assert_raises(BadName, "name", "", {"s": 0, "": 1, "sum": 2}, {}, "0")

    def test_starts_that_are_no_numbers(self):
        for thing in [thing for thing in ANY_OBJECTS if type(thing) not in (int, Ratio)]:
            self.assert_raises(BadNumber, "number", thing, {"s": thing}, {}, "0")
            self.assert_raises(BadNumber, "number", thing, {"s": 1, "t": thing, "u": "2"}, {}, "0")

    def test_keys_that_are_no_kinds(self):
        for thing in [*[thing for thing in ANY_OBJECTS if is_hashable(thing)], "price", "total", "Buy", "buy "]:
            self.assert_raises(NoKind, "kind", thing, STARTS, {thing: {}}, TOLD)
            self.assert_raises(NoKind, "kind", thing, STARTS, {"buy": {}, thing: {"total": "0"}, "z": {}}, TOLD)

    def test_keys_that_are_no_registers(self):
        for thing in [*[thing for thing in ANY_OBJECTS if is_hashable(thing)], "price", "buy", "1", "total "]:
            self.assert_raises(NoRegister, "name", thing, STARTS, {"buy": {thing: "0"}}, TOLD)
            changes = {"buy": {"total": "0"}, "pay": {"count": "0", thing: "0", "z": "0"}, "note": {"y": "0"}}
            self.assert_raises(NoRegister, "name", thing, STARTS, changes, TOLD)

    def test_texts_that_are_no_sums(self):
        for thing in [*ANY_OBJECTS, "total  + 1", "total*count", "price^0", "sum", "01", "1/0", "total^2", "+total"]:
            if type(thing) is str and thing == "2":
                continue
            self.assert_bad_sum(thing, {"buy": {"total": thing}}, TOLD)
            self.assert_bad_sum(thing, {"buy": {"count": "1", "total": thing}, "pay": {"total": ""}}, "")
            self.assert_bad_sum(thing, {}, thing)
            self.assert_bad_sum(thing, CHANGES, thing)

    def test_no_fields_in_what_is_told(self):
        for text in ("price", "total + sum", "many*total", "0*price"):
            self.assert_bad_sum(text, CHANGES, text)

    def test_sums_of_other_registers_or_fields(self):
        for text in ("other", "total + totals", "sum*total", "sum"):
            self.assert_bad_sum(text, {"buy": {"total": text}}, TOLD)

    def test_the_first_bad_text_dict_by_dict_and_then_what_is_told(self):
        self.assert_bad_sum("a", {"pay": {"count": "a", "total": "b"}, "buy": {"total": "c"}}, "d")
        self.assert_bad_sum("b", {"pay": {"count": "1", "total": "b"}, "buy": {"total": "c"}}, "d")
        self.assert_bad_sum("c", {"pay": {"count": "1", "total": "2"}, "buy": {"total": "c"}}, "d")
        self.assert_bad_sum("d", {"pay": {"count": "1", "total": "2"}, "buy": {"total": "price"}}, "d")

    def test_the_first_of_several_errors(self):
        self.assert_raises(BadName, "name", "B", {"s": None, "B": 0}, {"z": {"y": ""}}, "")
        self.assert_raises(BadNumber, "number", None, {"s": 0, "t": None}, {"z": {"y": ""}}, "")
        self.assert_raises(NoKind, "kind", "z", {"s": 0}, {"buy": {"y": "", "s": ""}, "z": {"s": "0"}}, "")
        self.assert_raises(NoRegister, "name", "y", {"s": 0}, {"buy": {"s": ""}, "note": {"s": "0", "y": ""}}, "")
        self.assert_raises(BadSum, "text", "", {"s": 0}, {"buy": {"s": "0"}, "note": {"s": ""}}, "x")


class LoopOfPartsTest(unittest.TestCase):
    def test_the_same_loop_as_of_texts(self):
        fields, one = ["price", "many"], {(0, 0): 1}
        changes = {"buy": {"total": {"1": Poly(fields, {(1, 1): 1}), "count": Poly(fields, {}),
                                     "total": Poly(fields, one)},
                           "count": {"count": Poly(fields, one), "1": Poly(fields, one)}},
                   "pay": {"total": {"1": Poly(["sum"], {(1,): -1}), "total": Poly(["sum"], {(0,): 1}),
                                     "count": Poly(["sum"], {(0,): 2})}}}
        told = {"1": Poly([], {}), "count": Poly([], {(): Ratio(-1, 2)}), "total": Poly([], {(): 1})}
        loop = loop_of_parts(SHOP, STARTS, changes, told)
        self.assertEqual(loop, bill())
        self.assertEqual((loop.told(), loop.powers()), (TOLD, bill().powers()))
        changes["buy"]["total"].clear()
        changes["pay"].clear()
        told.clear()
        self.assertEqual(loop, bill())

    def test_what_it_refuses(self):
        for error, starts, changes in ((BadName, {"sum": 0}, {}), (BadNumber, {"s": None}, {}),
                                       (NoKind, {"s": 0}, {"z": {}}), (NoRegister, {"s": 0}, {"buy": {"t": {}}})):
            with self.assertRaises(error):
                loop_of_parts(SHOP, starts, changes, {})


class AskedWronglyTest(unittest.TestCase):
    def assert_no_kind(self, thing, work):
        with self.assertRaises(NoKind) as caught:
            work()
        self.assertIs(caught.exception.kind, thing)

    def assert_no_register(self, thing, work):
        with self.assertRaises(NoRegister) as caught:
            work()
        self.assertIs(caught.exception.name, thing)

    def test_no_such_kind(self):
        loop = bill()
        for thing in [*ANY_OBJECTS, "price", "total", "1", "Buy"]:
            self.assert_no_kind(thing, lambda: loop.part(thing, "total", "1"))
            self.assert_no_kind(thing, lambda: loop.part(thing, "other", None))
            self.assert_no_kind(thing, lambda: loop.change(thing, "total"))
            self.assert_no_kind(thing, lambda: loop.change(thing, "other"))

    def test_no_such_register(self):
        loop = bill()
        for thing in [*ANY_OBJECTS, "price", "buy", "1", "sum"]:
            self.assert_no_register(thing, lambda: loop.start(thing))
            self.assert_no_register(thing, lambda: loop.part("buy", thing, "total"))
            self.assert_no_register(thing, lambda: loop.part("buy", thing, "other"))
            self.assert_no_register(thing, lambda: loop.change("buy", thing))

    def test_no_such_source(self):
        loop = bill()
        for thing in [*ANY_OBJECTS, "price", "buy", "sum", "0", " 1"]:
            self.assert_no_register(thing, lambda: loop.part("buy", "total", thing))
            self.assert_no_register(thing, lambda: loop.told_part(thing))
        loop = Loop(SHOP, {}, {}, "2")
        self.assertEqual(loop.told_part("1"), 2)
        self.assert_no_register("1", lambda: loop.start("1"))
        self.assert_no_register("total", lambda: loop.told_part("total"))

    def test_things_that_are_no_rows(self):
        loop = bill()
        for thing in [*ANY_OBJECTS, "note", ("buy", 1), ("buy", 1, 2, 3), ("buy", 1, True), ("buy", "1", 2),
                      ("note", 1), ("sell", 1, 2), ("total",), [("note",)], ["pay", 1.5], ["pay", None]]:
            for place in range(4):
                rows = [("note",), ("buy", 1, 2), ["pay", 3]]
                rows[place:place] = [thing]
                for told in (rows, tuple(rows), [*rows, None, thing]):
                    for work in (loop.run, loop.behind):
                        with self.assertRaises(BadRow) as caught:
                            work(told)
                        self.assertEqual(caught.exception.index, place)
        self.assertEqual(loop, bill())


class RunTest(LoopTest):
    def test_registers_get_their_values_at_once(self):
        rows = Rows([["row", ["x"]]])
        loop = Loop(rows, {"a": 1, "b": 2}, {"row": {"a": "b", "b": "a + x"}}, "10*a + b")
        self.assertEqual(loop.behind([("row", 5)]), {"a": 2, "b": 6})
        self.assertEqual(loop.run([("row", 5), ("row", 7)]), 69)

    def test_the_empty_list(self):
        for rows in ([], ()):
            self.assertEqual(bill().behind(rows), {"total": 0, "count": Ratio(1, 2)})
            self.assert_plain(bill().run(rows), Fraction(-1, 4))

    def test_the_example_of_the_document(self):
        shop = Rows([["buy", ["price", "many"]], ["note", []]])
        changes = {"buy": {"total": "price*many + total", "count": "count + 1"}}
        loop = Loop(shop, {"total": 0, "count": 0}, changes, TOLD)
        self.assert_plain(loop.run([("buy", 3, 2), ("note",), ("buy", 5, 1)]), 10)
        self.assertEqual(loop.change("buy", "total"), "total + price*many")
        self.assertEqual(loop.behind([("buy", 3, 2)]), {"total": 6, "count": 1})

    def test_whole_numbers_are_integers(self):
        rows = Rows([["row", ["x"]]])
        loop = Loop(rows, {"s": 0, "t": Ratio(1, 2)}, {"row": {"s": "s + 1/2*x", "t": "2*t"}}, "s - 1/2*t")
        self.assert_plain(loop.behind([("row", 6)])["s"], 3)
        self.assert_plain(loop.behind([("row", Ratio(3, 2))])["s"], Fraction(3, 4))
        self.assert_plain(loop.behind([("row", 1)])["t"], 1)
        self.assert_plain(loop.run([("row", 1)]), 0)
        self.assert_plain(loop.run([]), Fraction(-1, 4))

    def test_lists_and_rows_are_lists_or_tuples_and_stay(self):
        rows = [["buy", 3, Ratio(4, 2)], ("note",), ["pay", 5]]
        before = copy.deepcopy(rows)
        self.assertEqual(bill().run(rows), bill().run(tuple(tuple(row) for row in rows)))
        self.assertEqual(bill().behind(rows), {"total": 4, "count": Ratio(3, 2)})
        self.assertEqual((rows, type(rows[0]), type(rows[0][2])), (before, list, Ratio))

    def test_long_lists_of_long_numbers(self):
        rows = Rows([["row", ["x"]]])
        loop = Loop(rows, {"h": LONG}, {"row": {"h": f"{THIRTY}/7*h + x^2"}}, "h")
        expected = value(LONG)
        for number in range(40):
            expected = expected * THIRTY / 7 + value(LONG * number) ** 2
        self.assert_plain(loop.run([("row", LONG * number) for number in range(40)]), expected)

    def test_runs_of_many_loops(self):
        made = random.Random(11)
        numbers = [0, 1, -1, 2, 5, Ratio(1, 2), Ratio(-7, 3), THIRTY, LONG]
        for _ in range(60):
            loop, starts, changes, told = random_loop(made, numbers)
            rows = [random_row(made, numbers) for _ in range(made.randrange(6))]
            registers = {name: value(number) for name, number in starts.items()}
            for kind, *fields in rows:
                registers = stepped(registers, changes[kind], [value(number) for number in fields])
            self.assertEqual(list(loop.behind(rows)), list(starts))
            for name, number in loop.behind(rows).items():
                self.assert_plain(number, registers[name])
            self.assert_plain(loop.run(rows), stepped(registers, {"told": told}, [])["told"])


def random_terms(made, numbers, sources, many):
    """Some terms: tuples of a number, the powers of so many fields and a source."""
    return [(made.choice(numbers), [made.randrange(3) for _ in range(many)], made.choice(sources))
            for _ in range(made.randrange(4))]


def random_loop(made, numbers):
    """A loop over SHOP with its starts, and its changes and what it tells as terms."""
    names = made.sample(["a", "b", "c", "d"], made.randrange(1, 5))
    starts = {name: made.choice(numbers) for name in names}
    changes, texts = {}, {}
    for kind in SHOP.kinds():
        fields = SHOP.fields_of(kind)
        changes[kind] = {name: random_terms(made, numbers, [*names, "1"], len(fields)) for name in names}
        texts[kind] = {name: written(terms, fields) for name, terms in changes[kind].items()}
    told = random_terms(made, numbers, [*names, "1"], 0)
    return Loop(SHOP, starts, texts, written(told, [])), starts, changes, told


def written(terms, fields):
    """The text of some terms, in any form."""
    text = "0"
    for number, powers, source in terms:
        sign, size = ("-", -number) if value(number) < 0 else ("+", number)
        factors = [f"{field}^{power}" for field, power in zip(fields, powers) if power > 0]
        text += f" {sign} " + "*".join([source, str(size), *factors])
    return text


def stepped(registers, changes, fields):
    """What registers become by some terms, in Fractions."""
    worth = {**registers, "1": Fraction(1)}
    found = {}
    for name, terms in changes.items():
        found[name] = Fraction(0)
        for number, powers, source in terms:
            term = value(number) * worth[source]
            for power, field in zip(powers, fields):
                term *= field ** power
            found[name] += term
    return found


def random_row(made, numbers):
    kind = made.choice(SHOP.kinds())
    return (kind, *[made.choice(numbers) for _ in SHOP.fields_of(kind)])


class PowersTest(unittest.TestCase):
    def test_the_greatest_power_in_all_parts_of_a_kind(self):
        changes = {"buy": {"total": "price^2*total + many", "count": "many^3*total + price*count - 1"}, "pay": {}}
        self.assertEqual(Loop(SHOP, STARTS, changes, TOLD).powers(), {"buy": [2, 3], "note": [], "pay": [0]})
        changes = {"pay": {"count": "sum^12*count - sum"}, "buy": {"total": "7"}}
        powers = Loop(SHOP, STARTS, changes, TOLD).powers()
        self.assertEqual(list(powers.items()), [("buy", [0, 0]), ("note", []), ("pay", [12])])
        self.assertEqual({type(one) for one in powers.values()}, {list})

    def test_terms_that_cancel_do_not_count(self):
        changes = {"pay": {"total": "sum^2 + sum - sum^2", "count": "0*sum^9*total"}}
        self.assertEqual(Loop(SHOP, STARTS, changes, TOLD).powers()["pay"], [1])

    def test_powers_may_be_passed_to_rows(self):
        self.assertEqual(len(SHOP.grid(bill().powers())), 4 + 1 + 2)

    def test_one_name_in_several_kinds(self):
        rows = Rows([["a", ["x", "y"]], ["b", ["y", "x"]]])
        loop = Loop(rows, {"s": 0}, {"a": {"s": "x^2*y"}, "b": {"s": "x^3 + s"}}, "s")
        self.assertEqual(loop.powers(), {"a": [2, 1], "b": [0, 3]})


class EqualLoopsTest(unittest.TestCase):
    def assert_equal_is(self, one, two, expected):
        self.assertIs(one == two, expected)
        self.assertIs(two == one, expected)
        self.assertIs(one != two, not expected)

    def test_however_the_sums_are_written(self):
        other = Loop(Rows([("buy", ("price", "many")), ("note", ()), ("pay", ("sum",))]),
                     {"total": Ratio(0), "count": Ratio(2, 4)},
                     {"pay": {"count": "1*count", "total": "count + total - sum*1 + count"}, "note": {"total": "total"},
                      "buy": {"count": "2/2 + count", "total": "total + many*price"}}, "-2/4*count + total")
        self.assert_equal_is(bill(), other, True)
        self.assert_equal_is(bill(), bill(), True)

    def test_other_rows(self):
        kinds = [["buy", ["price", "many"]], ["note", []], ["pay", ["sum"]]]
        for other in (kinds[::-1], [*kinds, ["more", []]], [["buy", ["many", "price"]], *kinds[1:]]):
            self.assert_equal_is(bill(), Loop(Rows(other), STARTS, CHANGES, TOLD), False)
        self.assert_equal_is(Loop(Rows([]), {}, {}, "0"), Loop(Rows([["a", []]]), {}, {}, "0"), False)

    def test_other_registers_and_starts(self):
        for starts in ({"count": Ratio(1, 2), "total": 0}, {"total": 0, "count": 0}, {**STARTS, "more": 0},
                       {"total": Ratio(1, 2), "count": 0}):
            self.assert_equal_is(bill(), Loop(SHOP, starts, CHANGES, TOLD), False)
        self.assert_equal_is(Loop(SHOP, {"a": 0}, {}, "0"), Loop(SHOP, {"b": 0}, {}, "0"), False)
        self.assert_equal_is(Loop(SHOP, {"a": 0}, {}, "0"), Loop(SHOP, {}, {}, "0"), False)

    def test_other_changes(self):
        buy, pay = CHANGES["buy"], CHANGES["pay"]
        for changes in ({}, {"buy": buy}, {"pay": pay}, {**CHANGES, "note": {"count": "0"}},
                        {"buy": {**buy, "count": "count + 2"}, "pay": pay},
                        {"buy": {**buy, "total": "price*many + total + price"}, "pay": pay},
                        {"buy": {**buy, "total": "price*many + count"}, "pay": pay},
                        {"buy": {**buy, "total": "price*many"}, "pay": pay}):
            self.assert_equal_is(bill(), Loop(SHOP, STARTS, changes, TOLD), False)

    def test_other_sums_told(self):
        for told in ("total", "total - 1/2*count + 1", "total + 1/2*count", "0", "count - 1/2*total"):
            self.assert_equal_is(bill(), Loop(SHOP, STARTS, CHANGES, told), False)

    def test_loops_that_tell_the_same_may_be_unequal(self):
        self.assert_equal_is(Loop(SHOP, {"a": 0}, {}, "a"), Loop(SHOP, {"a": 0}, {}, "0"), False)

    def test_equal_to_nothing_else(self):
        for loop in (bill(), Loop(Rows([]), {}, {}, "0")):
            for thing in [*ANY_OBJECTS, SHOP, STARTS, CHANGES, TOLD, Loop]:
                self.assertIs(loop == thing, False)
                self.assertIs(loop != thing, True)


if __name__ == "__main__":
    unittest.main()
