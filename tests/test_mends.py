"""Points [25] and [26]: places, number_at, put_at, mends."""

import random
import time
import unittest
from fractions import Fraction
from unittest import mock

from reckoning import Model, drawn_model, drawn_number, drawn_rows, first_unlike, number_of, value

from everylist.built import plus, turned
from everylist.comparing import alike
from everylist.errors import Alike, BadNumber, ListError, NoPlace, UnlikeRows
from everylist.forms import least
from everylist.loops import Loop
from everylist.mends import mends, number_at, places, put_at
from everylist.polys import Poly
from everylist.ratios import Ratio
from everylist.rows import Rows
from everylist.texts import loop_text

THIRTY = 10 ** 30 - 1
NUMBERS = Rows([["row", ["x"]]])
SUMS = Loop(NUMBERS, {"s": 0, "p": 0, "q": 0}, {"row": {"s": "s + x", "p": "p + x*s", "q": "q + x^2"}}, "p")
TWICE = Loop(NUMBERS, {"s": 0, "p": 0}, {"row": {"s": "s + x", "p": "p + 2*x*s"}}, "p")
KINDS = ([], [("go", [])], [("up", []), ("down", [])], [("row", ["x"])], [("row", ["x"]), ("note", [])])


def copied(model):
    changes = {kind: {name: dict(terms) for name, terms in sums.items()} for kind, sums in model.changes.items()}
    return Model(model.kinds, model.starts, changes, model.told)


def places_of(model):
    """The places of a model, in their order."""
    sources = [*model.starts, "1"]
    found = [("start", name) for name in model.starts]
    for kind, _ in model.kinds:
        for name in model.starts:
            terms = model.changes[kind][name]
            for source in sources:
                powers = [term[1] for term, number in terms.items() if term[0] == source and number]
                found += [("on", kind, name, source, one) for one in sorted(powers, reverse=True)]
    return found + [("tell", source) for source in sources if model.told.get(source)]


def put_in(model, place, number):
    """The model with another number at a place."""
    found = copied(model)
    number = Fraction(number)
    if place[0] == "start":
        found.starts[place[1]] = number
    elif place[0] == "tell":
        found.told[place[1]] = number
    else:
        found.changes[place[1]][place[2]][(place[3], place[4])] = number
    return Model(found.kinds, found.starts, found.changes, found.told)


def number_in(model, place):
    if place[0] == "start":
        return model.starts[place[1]]
    return model.told[place[1]] if place[0] == "tell" else model.changes[place[1]][place[2]][(place[3], place[4])]


class MendsTest(unittest.TestCase):
    def assert_plain(self, number, expected):
        self.assertEqual(value(number), expected)
        self.assertIs(type(number), int if Fraction(expected).denominator == 1 else Ratio)

    def assert_no_place(self, thing, function, *given):
        with self.assertRaises(NoPlace) as caught:
            function(*given)
        self.assertIs(caught.exception.place, thing)
        self.assertIsInstance(caught.exception, ListError)


class PlacesTest(MendsTest):
    def test_the_order_of_places(self):
        shop = Rows([["buy", ["price", "many"]], ["note", []]])
        loop = Loop(shop, {"b": Ratio(1, 2), "a": 0}, {
            "buy": {"b": "many*price*b - 3 + many^2*b + a*2", "a": "0"}, "note": {"b": "1/2*b - a"}}, "7 - 2*a")
        expected = [("start", "b"), ("start", "a"), ("on", "buy", "b", "b", (1, 1)), ("on", "buy", "b", "b", (0, 2)),
                    ("on", "buy", "b", "a", (0, 0)), ("on", "buy", "b", "1", (0, 0)), ("on", "note", "b", "b", ()),
                    ("on", "note", "b", "a", ()), ("on", "note", "a", "a", ()), ("tell", "a"), ("tell", "1")]
        self.assertEqual(repr(places(loop)), repr(expected))
        numbers = [Fraction(1, 2), 0, 1, 1, 2, -3, Fraction(1, 2), -1, 1, -2, 7]
        for place, number in zip(expected, numbers):
            self.assert_plain(number_at(loop, place), number)

    def test_loops_without_registers_and_without_kinds(self):
        self.assertEqual(places(Loop(NUMBERS, {}, {}, "0")), [])
        self.assertEqual(places(Loop(NUMBERS, {}, {}, "3")), [("tell", "1")])
        self.assertEqual(places(Loop(Rows([]), {"a": 0}, {}, "a")), [("start", "a"), ("tell", "a")])

    def test_drawn_loops(self):
        source = random.Random(2501)
        for _ in range(60):
            kinds = source.choice([*KINDS, [("b", ["x", "y"]), ("go", [])]])
            model = drawn_model(source, kinds, ["c", "a", "b"][:source.randint(0, 3)], 4)
            loop = model.loop()
            self.assertEqual(repr(places(loop)), repr(places_of(model)))
            for place in places_of(model):
                self.assert_plain(number_at(loop, place), number_in(model, place))
                number = source.choice([drawn_number(source), Fraction(0), Fraction(5, 7)])
                found = put_at(loop, place, number_of(number))
                self.assertEqual(found, put_in(model, place, number).loop())
                self.assertEqual(repr(places(found)), repr(places_of(put_in(model, place, number))))
                rows = drawn_rows(source, kinds, 4)
                self.assertEqual(value(found.run(rows)), put_in(model, place, number).run(rows))
            self.assertEqual(loop, model.loop())

    def test_a_number_0(self):
        place = ("on", "row", "p", "s", (1,))
        found = put_at(TWICE, place, 0)
        self.assertEqual(found.change("row", "p"), "p")
        self.assert_no_place(place, number_at, found, place)
        self.assert_no_place(place, put_at, found, place, 2)
        self.assertEqual(number_at(TWICE, place), 2)
        for place in (("tell", "p"), ("on", "row", "s", "1", (1,))):
            gone = put_at(TWICE, place, Ratio(0))
            self.assert_no_place(place, number_at, gone, place)
        kept = put_at(put_at(TWICE, ("start", "s"), 4), ("start", "s"), 0)
        self.assertEqual(kept, TWICE)

    def test_numbers_become_plain(self):
        for place in places(TWICE):
            self.assert_plain(number_at(put_at(TWICE, place, Ratio(12, 4)), place), 3)
            self.assert_plain(number_at(put_at(TWICE, place, Ratio(-THIRTY, 7)), place), Fraction(-THIRTY, 7))

    def test_lists_in_the_place_of_tuples(self):
        for place in places(TWICE):
            as_list = [list(part) if isinstance(part, tuple) else part for part in place]
            self.assertEqual(number_at(TWICE, as_list), number_at(TWICE, place))
            self.assertEqual(put_at(TWICE, as_list, 5), put_at(TWICE, place, 5))
            self.assertEqual(put_at(TWICE, list(place), 5), put_at(TWICE, place, 5))

    def test_any_objects_that_are_no_places(self):
        before = loop_text(TWICE)
        for thing in (None, True, 0, 1.5, "", "start", "s", b"s", [], (), {}, {"start"}, {"start": "s"}, object(),
                      Ratio(1), mock.ANY, ("start",), ("start", "q"), ("start", "1"), ("start", "s", "s"),
                      ("start", ["s"]),
                      ("start", mock.ANY), (mock.ANY, "s"), ("Start", "s"), ("tell", "s"), ("tell", "1"),
                      ("tell", None),
                      ("on", "row", "s", "s"), ("on", "row", "s", "s", ()), ("on", "row", "s", "s", 0),
                      ("on", "row", "s", "s", (0, 0)), ("on", "row", "s", "s", (1,)), ("on", "row", "s", "p", (0,)),
                      ("on", "row", "s", "s", (False,)), ("on", "row", "p", "s", (True,)),
                      ("on", "row", "p", "s", (Ratio(1),)), ("on", "row", "p", "s", (1.0,)),
                      ("on", "row", "p", "s", mock.ANY), ("on", "row", "p", "s", (mock.ANY,)),
                      ("on", "row", "p", "s", {1}),
                      ("on", "now", "s", "s", (0,)), ("on", "row", "q", "q", (0,)), ("on", "row", "p", "1", (1,)),
                      (("on", "row", "p", "s", (1,)),), ("on", "row", "p", "s", "1"), ("s", "start")):
            self.assert_no_place(thing, number_at, TWICE, thing)
            for number in (3, None, 0.5):
                self.assert_no_place(thing, put_at, TWICE, thing, number)
        self.assertEqual(loop_text(TWICE), before)

    def test_any_objects_that_are_no_numbers(self):
        before = loop_text(TWICE)
        for thing in (None, True, False, 1.5, "1", "", [1], (1,), {1: 1}, object(), Poly([], {}), mock.ANY,
                      Fraction(1, 2)):
            for place in places(TWICE):
                with self.assertRaises(BadNumber) as caught:
                    put_at(TWICE, place, thing)
                self.assertIs(caught.exception.number, thing)
                self.assertIsInstance(caught.exception, ListError)
        self.assertEqual(loop_text(TWICE), before)

    def test_what_is_returned_is_new(self):
        found = places(TWICE)
        found.append(None)
        self.assertEqual(len(places(TWICE)), 7)
        place = ("start", "s")
        self.assertIsNot(put_at(TWICE, place, 0), TWICE)
        self.assertEqual(put_at(TWICE, place, 0), TWICE)


class MendTest(MendsTest):
    def test_the_example_of_the_document(self):
        found = [(place, str(number)) for place, number in mends(TWICE, SUMS)]
        self.assertEqual(repr(found), "[(('on', 'row', 's', '1', (1,)), '1/2'), (('on', 'row', 'p', 's', (1,)), '1'), "
                                      "(('tell', 'p'), '1/2')]")

    def test_small_mends(self):
        count = Loop(NUMBERS, {"c": 1}, {"row": {"c": "c + 1"}}, "c")
        other = Loop(NUMBERS, {"d": 0}, {"row": {"d": "d + 1"}}, "d")
        self.assertEqual(mends(count, other), [(("start", "c"), 0)])
        self.assertEqual(mends(other, count), [(("start", "d"), 1)])
        self.assertEqual(mends(count, Loop(NUMBERS, {}, {}, "0")), [(("tell", "c"), 0)])
        self.assertEqual(mends(count, Loop(NUMBERS, {}, {}, "1")),
                         [(("on", "row", "c", "c", (0,)), 0), (("on", "row", "c", "1", (0,)), 0)])
        self.assertEqual(mends(count, Loop(NUMBERS, {}, {}, "2")), [])
        self.assertEqual(mends(Loop(NUMBERS, {}, {}, "0"), count), [])
        self.assertEqual(mends(Loop(NUMBERS, {}, {}, "3"), Loop(NUMBERS, {}, {}, "4")), [(("tell", "1"), 4)])
        double = Loop(Rows([["go", []]]), {"a": 1}, {"go": {"a": "2*a"}}, "a")
        third = Loop(Rows([["go", []]]), {"a": 1}, {"go": {"a": "1/3*a"}}, "a")
        found = mends(double, third)
        self.assertEqual([(place, str(number)) for place, number in found], [(("on", "go", "a", "a", ()), "1/3")])
        # The number stands in the loop twice in what is told of two rows, and once in what is told of one.
        self.assertEqual(mends(double, Loop(Rows([["go", []]]), {"a": 1}, {"go": {"a": "-2*a"}}, "a")),
                         [(("on", "go", "a", "a", ()), -2)])

    def test_places_by_their_order_and_pairs_of_them(self):
        loop = Loop(NUMBERS, {"a": 2, "b": 3}, {"row": {"a": "2*a", "b": "b"}}, "a + b")
        wish = Loop(NUMBERS, {"a": 2, "b": 4}, {"row": {"a": "2*a"}}, "a + b")
        found = mends(loop, wish)
        self.assertEqual([place for place, _ in found], [("start", "b"), ("tell", "b")])
        self.assertEqual([str(number) for _, number in found], ["4", "4/3"])
        for pair in found:
            self.assertIs(type(pair), tuple)
            self.assertIs(type(pair[0]), tuple)
        self.assertIs(type(found), list)
        self.assertIs(type(found[0][1]), int)

    def test_drawn_mends(self):
        source = random.Random(2601)
        seen = {}
        for _ in range(90):
            kinds = source.choice(KINDS)
            model = drawn_model(source, kinds, ["a", "b", "c"][:source.randint(0, 2)], 2)
            at = places_of(model)
            if not at:
                continue
            place = source.choice(at)
            wish = put_in(model, place, drawn_number(source) + source.choice([0, 1, Fraction(1, 2)]))
            if source.random() < 0.2:
                wish = drawn_model(source, kinds, ["a", "b"][:source.randint(0, 2)], 2)
            if first_unlike(model, wish, 4) is None:
                with self.assertRaises(Alike):
                    mends(model.loop(), wish.loop())
                continue
            found = mends(model.loop(), wish.loop())
            self.assertEqual([(place, value(number)) for place, number in found], self.mends_of(model, wish))
            for place, number in found:
                self.assertIs(type(number), int if value(number).denominator == 1 else Ratio)
                self.assertTrue(alike(put_at(model.loop(), place, number), wish.loop()))
            seen[len(found)] = seen.get(len(found), 0) + 1
        self.assertGreaterEqual(set(seen), {0, 1, 2, 3})

    def mends_of(self, model, wish):
        """The mends by the reckoning of the tests: each number that the lists of the grid leave, tried with them."""
        found = []
        for place in places_of(model):
            models = [put_in(model, place, number) for number in (0, 1)]
            rows = first_unlike(*models, 4)
            if rows is None:
                continue
            none, one = [each.run(rows) for each in models]
            number = (wish.run(rows) - none) / (one - none)
            if first_unlike(put_in(model, place, number), wish, 4) is None:
                found.append((place, number))
        return found

    def test_numbers_that_were_changed_are_found(self):
        source = random.Random(2602)
        many = 0
        for _ in range(40):
            kinds = [("b", ["x", "y"]), ("go", []), ("c", ["u"])]
            model = drawn_model(source, kinds, ["a", "b" + "b", "c" + "c"], 3)
            loop = model.loop()
            place = source.choice(places(loop))
            number = value(number_at(loop, place)) + source.choice([1, -2, Fraction(1, 3)])
            wrong = put_at(loop, place, number_of(number))
            if alike(loop, wrong):
                continue
            many += 1
            found = mends(wrong, least(loop))
            if place in places(wrong):
                self.assertIn((place, number_at(loop, place)), found)
            for where, number in found:
                self.assertTrue(alike(put_at(wrong, where, number), loop))
        self.assertGreater(many, 15)

    def test_errors(self):
        other = Loop(Rows([["row", ["y"]]]), {}, {}, "0")
        for one, two, error in ((SUMS, other, UnlikeRows), (other, SUMS, UnlikeRows), (SUMS, SUMS, Alike),
                                (SUMS, least(SUMS), Alike), (TWICE, plus(SUMS, SUMS), Alike),
                                (TWICE, turned(TWICE), Alike)):
            with self.assertRaises(error) as caught:
                mends(one, two)
            self.assertIsInstance(caught.exception, ListError)

    def test_what_is_returned_is_new_and_loops_stay(self):
        before = [loop_text(SUMS), loop_text(TWICE)]
        found = mends(TWICE, SUMS)
        found.append(None)
        self.assertEqual(len(mends(TWICE, SUMS)), 3)
        self.assertEqual([loop_text(SUMS), loop_text(TWICE)], before)

    def test_soon(self):
        begun = time.monotonic()
        source = random.Random(2603)
        kinds = [(kind, ["x", "y", "z"]) for kind in ("k", "l", "m", "n")]
        model = drawn_model(source, kinds, ["a", "b", "c"], 8)
        place = source.choice([one for one in places_of(model) if one[0] == "on"])
        wish = put_in(model, place, Fraction(THIRTY, 7))
        self.assertIn((place, Fraction(THIRTY, 7)),
                      [(where, value(number)) for where, number in mends(model.loop(), wish.loop())])
        self.assertLess(time.monotonic() - begun, 30)


if __name__ == "__main__":
    unittest.main()
