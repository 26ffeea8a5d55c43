"""Points [17] and [18]: Relation, relations, holds."""

import itertools
import random
import time
import unittest
from fractions import Fraction

from reckoning import Model, Span, drawn_model, drawn_rows, grid_lists, number_of, value

from everylist.errors import ListError, NoRegister
from everylist.loops import Loop
from everylist.polys import Poly
from everylist.ratios import Ratio
from everylist.relations import Relation, holds, relations
from everylist.rows import Rows
from everylist.texts import loop_text

THIRTY = 10 ** 30 - 1
NUMBERS = Rows([["row", ["x"]]])
SUMS = Loop(NUMBERS, {"s": 0, "p": 0, "q": 0}, {"row": {"s": "s + x", "p": "p + x*s", "q": "q + x^2"}}, "p")


def monomials_of(names, degree):
    """The monomials of at most this degree, in their order."""
    return [one for length in range(degree + 1) for one in itertools.combinations_with_replacement(names, length)]


def worth_of(terms, numbers):
    """What the terms of a relation are, where the registers hold these numbers."""
    total = Fraction(0)
    for monomial, number in terms.items():
        worth = value(number)
        for name in monomial:
            worth *= numbers[name]
        total += worth
    return total


def twice(powers):
    return {kind: [2 * power for power in tops] for kind, tops in powers.items()}


class RelationTest(unittest.TestCase):
    def test_terms_in_order(self):
        terms = {("b", "b"): 1, ("c",): -2, ("b", "a"): 3, (): 4, ("a", "c"): Ratio(1, 2), ("a",): 5, ("aa",): 6}
        found = Relation(terms).terms()
        self.assertEqual(list(found), [(), ("a",), ("aa",), ("c",), ("a", "c"), ("b", "a"), ("b", "b")])
        self.assertEqual([str(number) for number in found.values()], ["4", "5", "6", "-2", "1/2", "3", "1"])

    def test_terms_are_plain_and_not_0(self):
        found = Relation({("a",): Ratio(4, 2), ("b",): 0, ("a", "b"): Ratio(0), (): Ratio(1, 3)}).terms()
        self.assertEqual(list(found), [(), ("a",)])
        self.assertEqual(found[("a",)], 2)
        self.assertIs(type(found[("a",)]), int)
        self.assertEqual(str(found[()]), "1/3")
        self.assertEqual(Relation({}).terms(), {})

    def test_texts(self):
        for terms, expected in (
                ({}, "0 = 0"), ({(): 1}, "1 = 0"), ({(): -1}, "-1 = 0"), ({("s",): 1}, "s = 0"),
                ({("s",): -1}, "-s = 0"), ({("s", "s"): 1, ("q",): -1, ("p",): -2}, "s*s - q - 2*p = 0"),
                ({("s", "t"): Ratio(-1, 2), ("s",): Ratio(3, 4), (): -5}, "-1/2*s*t + 3/4*s - 5 = 0"),
                ({("a", "b"): 1, ("b", "b"): 1, ("a", "a"): 1, ("b",): 1, ("a",): 1, (): 1},
                 "b*b + a*b + a*a + b + a + 1 = 0"),
                ({("x", "x"): 2, (): Ratio(1, 2)}, "2*x*x + 1/2 = 0"), ({("a",): 0, ("b",): 1}, "b = 0"),
                ({("ab",): 1, ("b",): -1, ("a",): THIRTY}, f"-b + ab + {THIRTY}*a = 0")):
            self.assertEqual(str(Relation(terms)), expected)
            self.assertEqual(str(Relation(dict(list(terms.items())[::-1]))), expected)

    def test_equal(self):
        one = Relation({("a",): 2, ("a", "b"): Ratio(1, 2)})
        for terms in ({("a", "b"): Ratio(1, 2), ("a",): 2}, {("a",): Ratio(2), ("a", "b"): Ratio(2, 4), ("b",): 0}):
            self.assertTrue(one == Relation(terms))
            self.assertFalse(one != Relation(terms))
        for terms in ({}, {("a",): 2}, {("a",): 2, ("a", "b"): 1}, {("a",): 2, ("b", "a"): Ratio(1, 2)},
                      {("a",): 2, ("a", "b"): Ratio(1, 2), (): 1}, {("b",): 2, ("a", "b"): Ratio(1, 2)}):
            self.assertFalse(one == Relation(terms))
            self.assertTrue(one != Relation(terms))

    def test_equal_to_nothing_else(self):
        one = Relation({("a",): 2})
        for other in (None, 0, 2, "2*a = 0", {("a",): 2}, one.terms(), [], (), Poly(["a"], {(1,): 2}), object()):
            self.assertFalse(one == other)
            self.assertTrue(one != other)

    def test_what_is_passed_and_returned(self):
        terms = {("a",): 2, (): 0}
        one = Relation(terms)
        terms[("b",)] = 1
        terms[("a",)] = 3
        self.assertEqual(str(one), "2*a = 0")
        self.assertEqual(terms, {("a",): 3, (): 0, ("b",): 1})
        found = one.terms()
        found[()] = 7
        self.assertEqual(one.terms(), {("a",): 2})
        self.assertIsNot(one.terms(), one.terms())


class RelationsTest(unittest.TestCase):
    def texts(self, loop, degree):
        found = relations(loop, degree)
        self.assertIs(type(found), list)
        self.assertEqual([type(one) for one in found], [Relation] * len(found))
        return [str(one) for one in found]

    def test_the_example_of_the_document(self):
        self.assertEqual(repr([str(one) for one in relations(SUMS, 2)]), "['s*s - q - 2*p = 0']")
        self.assertEqual(self.texts(SUMS, 1), [])

    def test_small_loops(self):
        changes = {"row": {"a": "a + x", "b": "b + x", "c": "c - 2*x"}}
        loop = Loop(NUMBERS, {"a": 1, "b": 3, "c": Ratio(1, 2)}, changes, "0")
        self.assertEqual(self.texts(loop, 1), ["b - a - 2 = 0", "c + 2*a - 5/2 = 0"])
        self.assertEqual(self.texts(loop, 2), [
            "b - a - 2 = 0", "c + 2*a - 5/2 = 0", "a*b - a*a - 2*a = 0", "a*c + 2*a*a - 5/2*a = 0",
            "b*b - a*a - 4*a - 4 = 0", "b*c + 2*a*a + 3/2*a - 5 = 0", "c*c - 4*a*a + 10*a - 25/4 = 0"])
        fixed = Loop(NUMBERS, {"k": 3, "z": 0}, {}, "k")
        self.assertEqual(self.texts(fixed, 1), ["k - 3 = 0", "z = 0"])
        self.assertEqual(self.texts(fixed, 2), ["k - 3 = 0", "z = 0", "k*k - 9 = 0", "k*z = 0", "z*z = 0"])
        sign = Loop(Rows([["go", []]]), {"s": 1}, {"go": {"s": "-s"}}, "s")
        self.assertEqual(self.texts(sign, 1), [])
        self.assertEqual(self.texts(sign, 2), ["s*s - 1 = 0"])
        # Squares are held twice the powers apart: x^2 goes in, so that x^4 counts.
        power = Loop(NUMBERS, {"u": 0, "v": 0}, {"row": {"u": "x^2", "v": "x"}}, "0")
        self.assertEqual(self.texts(power, 2), ["v*v - u = 0"])

    def test_loops_without_registers_and_without_kinds(self):
        for degree in (1, 2):
            self.assertEqual(self.texts(Loop(NUMBERS, {}, {}, "1"), degree), [])
            self.assertEqual(self.texts(Loop(Rows([]), {}, {}, "1"), degree), [])
        loop = Loop(Rows([]), {"b": Ratio(1, 2), "a": 0}, {}, "b")
        self.assertEqual(self.texts(loop, 1), ["b - 1/2 = 0", "a = 0"])
        self.assertEqual(self.texts(loop, 2), ["b - 1/2 = 0", "a = 0", "b*b - 1/4 = 0", "b*a = 0", "a*a = 0"])

    def test_monomials_in_the_order_of_the_loop(self):
        # The monomials are ordered by the places of the registers; the text is in the order of names.
        loop = Loop(NUMBERS, {"z": 0, "a": 0}, {"row": {"z": "z + x", "a": "a - x"}}, "0")
        found = relations(loop, 2)
        self.assertEqual([str(one) for one in found], ["z + a = 0", "z*z + z*a = 0", "-z*z + a*a = 0"])
        self.assertEqual(list(found[0].terms()), [("a",), ("z",)])
        self.assertEqual(list(found[1].terms()), [("z", "a"), ("z", "z")])
        self.assertEqual([one.terms()[("z", "a")] for one in found[1:2]], [1])

    def test_drawn_loops(self):
        source = random.Random(1801)
        found = {1: 0, 2: 0}
        for _ in range(60):
            kinds, most = source.choice([([("b", ["x", "y"]), ("go", [])], 2), ([("go", [])], 14),
                                         ([("row", ["x"])], 3), ([("up", []), ("w", [])], 7)])
            names = ["c", "a", "d", "b"][:source.randint(0, 4)]
            model = drawn_model(source, kinds, names, 2)
            loop = model.loop()
            behind = [model.behind(drawn_rows(source, kinds, 16)) for _ in range(60)]
            behind += [model.behind(rows) for rows in grid_lists(kinds, twice(model.powers()), most)]
            for degree in (1, 2):
                told = relations(loop, degree)
                self.check_relations(told, monomials_of(names, degree), behind)
                found[degree] += len(told)
                for one in told:
                    self.assertIsNone(holds(loop, one))
        self.assertGreater(found[1], 20)
        self.assertGreater(found[2], 100)

    def check_relations(self, told, monomials, behind):
        """Checks that relations hold behind drawn lists, that there are as many as can be, and their form."""
        for one in told:
            for numbers in behind:
                self.assertEqual(worth_of(one.terms(), numbers), 0)
        span = Span()
        many = sum([span.take([worth_of({monomial: 1}, numbers) for monomial in monomials]) for numbers in behind])
        self.assertEqual(len(told), len(monomials) - many)
        greatest = [max(one.terms(), key=monomials.index) for one in told]
        self.assertEqual(greatest, sorted(greatest, key=monomials.index))
        for place, one in enumerate(told):
            self.assertEqual([other.terms().get(greatest[place], 0) for other in told],
                             [int(other is one) for other in told])
            for number in one.terms().values():
                self.assertIs(type(number), int if value(number).denominator == 1 else Ratio)

    def test_long_numbers_soon(self):
        begun = time.monotonic()
        changes = {"row": {"a": f"a + {THIRTY}/{THIRTY - 1}*x", "b": f"b + {THIRTY - 3}*x*a + {THIRTY}*x^2",
                           "c": f"c + 1/{THIRTY}*x^2", "d": f"d + {THIRTY}*x + b"}}
        loop = Loop(NUMBERS, {"a": 0, "b": 0, "c": THIRTY, "d": Ratio(1, THIRTY - 5)}, changes, "0")
        found = relations(loop, 2)
        self.assertEqual(len(found), 1)
        self.assertIsNone(holds(loop, found[0]))
        for rows in ([], [("row", 3)], [("row", Ratio(1, 3)), ("row", THIRTY), ("row", -4)]):
            numbers = {name: value(number) for name, number in loop.behind(rows).items()}
            self.assertEqual(worth_of(found[0].terms(), numbers), 0)
        self.assertEqual(relations(loop, 1), [])
        self.assertLess(time.monotonic() - begun, 20)

    def test_many_registers_and_large_grids_soon(self):
        begun = time.monotonic()
        rows = Rows([[kind, ["x", "y", "z"]] for kind in ("k", "l", "m", "n")])
        names = ["a", "b", "c", "d", "e", "f", "g", "h", "i", "j", "o", "p"]
        changes = {kind: {name: f"{name} + {place + 1}*x^2*y^2*z^2*a" for place, name in enumerate(names[1:])}
                   for kind in rows.kinds()}
        found = relations(Loop(rows, {name: 1 for name in names}, changes, "a"), 1)
        self.assertEqual(str(found[0]), "a - 1 = 0")
        self.assertEqual([str(one) for one in found[1:]],
                         [f"{name} - {place + 2}*b + {place + 1} = 0" for place, name in enumerate(names[2:])])
        four = Loop(rows, {name: 1 for name in names[:4]},
                    {kind: {name: f"{name} + x^2*y*{other} + z^2*{name} - y^2" for name, other in zip("abc", "bcd")}
                     for kind in rows.kinds()}, "a")
        self.assertEqual([str(one) for one in relations(four, 2)],
                         ["d - 1 = 0", "a*d - a = 0", "b*d - b = 0", "c*d - c = 0", "d*d - 1 = 0"])
        self.assertLess(time.monotonic() - begun, 20)

    def test_what_is_returned_is_new_and_the_loop_stays(self):
        before = loop_text(SUMS)
        found = relations(SUMS, 2)
        found.append(None)
        found[0].terms()[()] = 1
        self.assertEqual(relations(SUMS, 2), [Relation({("s", "s"): 1, ("q",): -1, ("p",): -2})])
        self.assertEqual(loop_text(SUMS), before)


class HoldsTest(unittest.TestCase):
    def test_small_relations(self):
        self.assertIsNone(holds(SUMS, Relation({("s", "s"): Ratio(1, 2), ("q",): Ratio(-1, 2), ("p",): -1})))
        self.assertIsNone(holds(SUMS, Relation({})))
        for terms, expected in (({(): 1}, []), ({("s",): 1}, [("row", 1)]), ({("p",): 1}, [("row", 1), ("row", 1)]),
                                ({("s",): 1, ("q",): -1}, [("row", 2)]),
                                ({("s", "s"): 1, ("q",): -1}, [("row", 1)] * 2),
                                ({("q", "q"): 1, ("s",): -7, ("q",): 6}, [("row", 2)]),
                                ({("s", "p"): 1}, [("row", 1)] * 2), ({("q", "q"): 1}, [("row", 1)])):
            found = holds(SUMS, Relation(terms))
            self.assertEqual(found, expected)
            self.assertIs(type(found), list)
            self.assertEqual([type(row) for row in found], [tuple] * len(found))

    def test_twice_the_powers(self):
        # The values are 0 for 0, 1 and 2, the numbers of the grid of the loop.
        loop = Loop(NUMBERS, {"u": 0, "v": 0}, {"row": {"u": "x^2", "v": "x"}}, "0")
        self.assertEqual(holds(loop, Relation({("u", "v"): 1, ("u",): -3, ("v",): 2})), [("row", 3)])
        loop = Loop(NUMBERS, {"u": 0, "v": 0}, {"row": {"u": "x^2 + x", "v": "x^2"}}, "0")
        # u*u = x^4 + 2*x^3 + x^2, and so on: x*(x - 1)*(x - 2)*(x - 3) = x^4 - 6*x^3 + 11*x^2 - 6*x.
        terms = {("u", "u"): -3, ("v", "v"): 4, ("u",): -6, ("v",): 20}
        self.assertEqual(holds(loop, Relation(terms)), [("row", 4)])

    def test_loops_without_registers_and_without_kinds(self):
        for rows in (Rows([]), NUMBERS):
            loop = Loop(rows, {}, {}, "1")
            self.assertIsNone(holds(loop, Relation({})))
            self.assertEqual(holds(loop, Relation({(): 3})), [])
        loop = Loop(Rows([]), {"a": 2}, {}, "0")
        self.assertIsNone(holds(loop, Relation({("a", "a"): 1, (): -4})))
        self.assertEqual(holds(loop, Relation({("a", "a"): 1, (): 4})), [])

    def test_registers_in_another_order(self):
        self.assertEqual(holds(SUMS, Relation({("p", "s"): 1})), [("row", 1)] * 2)
        self.assertIsNone(holds(SUMS, Relation({("p", "s"): 1, ("s", "p"): -1})))

    def test_the_grid_gone_through(self):
        source = random.Random(1802)
        seen = {None: 0}
        for _ in range(300):
            kinds, many = source.choice([([("go", [])], 3), ([("row", ["x"])], 2), ([("up", []), ("w", [])], 2),
                                         ([("b", ["x", "y"])], 1), ([], 2)])
            names = ["b", "a", "c"][:source.randint(1, many)]
            model = drawn_model(source, kinds, names, 2)
            degree = source.choice([1, 2, 2])
            told = relations(model.loop(), degree)
            terms = {}
            for one in told[:2]:
                for monomial, number in one.terms().items():
                    terms[monomial] = terms.get(monomial, 0) + number
            for _ in range(source.choice([0, 1, 1, 2])):
                monomial = source.choice(monomials_of(names, degree))
                terms[monomial] = terms.get(monomial, 0) + number_of(Fraction(source.randint(-3, 3), 2))
            expected = None
            for rows in grid_lists(kinds, twice(model.powers()), 3):
                if worth_of(terms, model.behind(rows)) != 0:
                    expected = rows
                    break
            found = holds(model.loop(), Relation(terms))
            if found is not None and len(found) > 3:
                self.assertIsNone(expected)
                self.assertNotEqual(worth_of(terms, model.behind(found)), 0)
            else:
                self.assertEqual(found, expected)
            seen[None if found is None else len(found)] = True
        self.assertGreaterEqual(set(seen), {None, 0, 1, 2})

    def test_relations_that_only_long_lists_break(self):
        starts = {"a": 0, "b": 0, "c": 0, "d": 0}
        loop = Loop(Rows([["row", ["x", "y", "z"]]]), starts,
                    {"row": {"a": "b", "b": "c", "c": "d", "d": "x^2*y^2*z^2"}}, "0")
        first = [("row", 1, 1, 1)] + [("row", 0, 0, 0)] * 3
        self.assertEqual(holds(loop, Relation({("a", "a"): 1})), first)
        self.assertEqual(holds(loop, Relation({("a",): 1})), first)
        self.assertEqual(holds(loop, Relation({("a", "d"): 1})), first[:-1] + [("row", 1, 1, 1)])
        many = Loop(Rows([["go", []]]), {name: 0 for name in "abcdefghijkl"},
                    {"go": {name: behind for name, behind in zip("abcdefghijkl", [*"bcdefghijkl", "1"])}}, "a")
        self.assertEqual(holds(many, Relation({("a",): 1})), [("go",)] * 12)

    def test_names_that_are_no_registers(self):
        before = loop_text(SUMS)
        for terms, name in (({("x",): 1}, "x"), ({("t",): 1, ("u", "v"): 1}, "t"), ({("s", "t"): 1, ("s",): 1}, "t"),
                            ({("u", "s"): 1, ("s", "z"): 1}, "z"), ({("z",): 1, ("b",): 1}, "b"), ({("1",): 1}, "1"),
                            ({("s", "row"): 1, (): 1}, "row"), ({("b", "a"): 1, (): 5}, "b"), ({("",): 1}, "")):
            with self.assertRaises(NoRegister) as caught:
                holds(SUMS, Relation(terms))
            self.assertEqual(caught.exception.name, name)
            self.assertIsInstance(caught.exception, ListError)
        # A monomial with the number 0 is none of the terms.
        self.assertEqual(holds(SUMS, Relation({("x",): 0, (): 1})), [])
        self.assertEqual(loop_text(SUMS), before)

    def test_what_is_returned_is_new(self):
        relation = Relation({("p",): 1})
        found = holds(SUMS, relation)
        found.append(("row", 9))
        self.assertEqual(holds(SUMS, relation), [("row", 1)] * 2)
        self.assertEqual(relation.terms(), {("p",): 1})


class MonomialsTest(unittest.TestCase):
    def test_the_reckoning_of_monomials(self):
        self.assertEqual(monomials_of(["b", "a"], 2), [(), ("b",), ("a",), ("b", "b"), ("b", "a"), ("a", "a")])
        model = Model([("row", ["x"])], {"s": 1}, {"row": {"s": {("s", (1,)): 2}}}, {"s": 1})
        self.assertEqual(worth_of({("s", "s"): 3, (): Ratio(1, 2)}, model.behind([("row", 3)])), Fraction(217, 2))


if __name__ == "__main__":
    unittest.main()
