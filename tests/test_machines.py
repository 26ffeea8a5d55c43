"""The inner files: vectors, bundles and machines."""

import itertools
import random
import unittest
from fractions import Fraction

from reckoning import Span, drawn_model, drawn_rows, grid_lists, value

from everylist.bundles import at_point, first_point, power_of, total_of, without_zeros
from everylist.loops import Loop
from everylist.machines import (all_lists, first_list, first_lists, machine_by_prime, machine_of, rests, sources_of,
                                told_by)
from everylist.ratios import Ratio
from everylist.rows import Rows
from everylist.vectors import (Space, common_bottom, cut, divisor_of, dot, first_place, inverse, inverse_by, is_zero,
                               made_whole, plus_times, shortened, times, unit)

NUMBERS = Rows([["row", ["x"]]])


class VectorsTest(unittest.TestCase):
    def test_small_things(self):
        self.assertEqual(dot([1, 2, 3], [4, 0, -1]), 1)
        self.assertEqual(plus_times([1, 2], [3, -4], 2), [7, -6])
        self.assertEqual(times([1, -2], 3), [3, -6])
        self.assertEqual(unit(3, 1), [0, 1, 0])
        self.assertEqual([first_place([0, 0, 5, 1]), first_place([0, 0]), first_place([])], [2, None, None])
        self.assertEqual([is_zero([0, 0]), is_zero([]), is_zero([0, -1])], [True, True, False])
        self.assertEqual([divisor_of([4, -6, 0]), divisor_of([0, 0]), divisor_of([])], [2, 0, 0])
        self.assertEqual([shortened([4, -6, 0]), shortened([0, 0]), shortened([3, 2])], [[2, -3, 0], [0, 0], [3, 2]])
        self.assertEqual([common_bottom([1, Ratio(1, 4), Ratio(5, 6)]), common_bottom([])], [12, 1])
        self.assertEqual(made_whole([1, Ratio(1, 4), Ratio(-5, 6)], 12), [12, 3, -10])

    def test_spaces(self):
        source = random.Random(1)
        for _ in range(300):
            size = source.randint(1, 5)
            space, span = Space(size), Span()
            for _ in range(7):
                vector = [source.choice([0, 0, 1, -1, 2, 12, -18]) for _ in range(size)]
                rest = space.rest(vector)
                is_new = span.take(vector)
                self.assertEqual(is_zero(rest), not is_new)
                self.assertIs(space.widen(vector), is_new)
                self.assertTrue(is_zero(space.rest(vector)))
                self.assertIs(space.is_full(), len(span.rows) == size)
            self.check_rows(space)

    def check_rows(self, space):
        rows = space.by_pivots()
        self.assertEqual(list(rows), sorted(rows))
        for pivot, row in rows.items():
            self.assertEqual(first_place(row), pivot)
            self.assertEqual([other[pivot] for other in rows.values()],
                             [space.scale() if one == pivot else 0 for one in rows])
        self.assertIn(divisor_of([space.scale(), *[number for row in rows.values() for number in row]]), (0, 1))

    def test_spaces_by_a_prime(self):
        source = random.Random(5)
        for _ in range(100):
            prime, size = source.choice([2, 3, 5, 7]), source.randint(1, 3)
            space, members = Space(size, prime), {(0,) * size}
            for _ in range(4):
                vector = tuple([source.randint(-9, 9) for _ in range(size)])
                is_new = tuple(cut(vector, prime)) not in members
                self.assertEqual(is_zero(space.rest(vector)), not is_new)
                self.assertIs(space.widen(vector), is_new)
                members = {tuple([(one + k * more) % prime for one, more in zip(member, vector)])
                           for member in members for k in range(prime)}
                self.assertIs(space.is_full(), len(members) == prime ** size)
                self.assertEqual(space.scale(), 1)

    def test_inverses(self):
        self.assertEqual(cut([5, -1, 7], 3), [2, 2, 1])
        self.assertEqual(cut([5, -1, 7], 0), [5, -1, 7])
        for prime in (2, 3, 5, 7, 997):
            for number in range(1, min(prime, 30)):
                self.assertEqual(number * inverse_by(prime, number) % prime, 1)
                self.assertEqual((number - prime) * inverse_by(prime, number - prime) % prime, 1)
        columns, scale = inverse([[0, 2, 1], [1, 1, 0], [3, 0, 5]])
        for row, place in (([0, 2, 1], 0), ([1, 1, 0], 1), ([3, 0, 5], 2)):
            self.assertEqual([dot(row, column) for column in columns], times(unit(3, place), scale))

    def test_rests_are_linear(self):
        space = Space(4)
        for vector in ([2, 1, 0, 3], [0, 5, 1, 1]):
            space.widen(vector)
        one, other = [1, 7, 2, 5], [3, -1, 4, 2]
        self.assertEqual(space.rest(plus_times(one, other, 3)), plus_times(space.rest(one), space.rest(other), 3))
        rows = space.by_pivots()
        rows[0][0] = 99
        self.assertNotEqual(space.by_pivots()[0][0], 99)


class BundlesTest(unittest.TestCase):
    def test_small_things(self):
        self.assertEqual([power_of(3, 0), power_of(3, 4), power_of(0, 0), power_of(0, 2)], [1, 81, 1, 0])
        self.assertEqual(without_zeros({(0,): [0, 0], (1,): [0, 2]}), {(1,): [0, 2]})
        self.assertEqual(total_of([((0,), [1, 2]), ((1,), [1, 1]), ((0,), [-1, 5]), ((1,), [-1, -1])]), {(0,): [0, 7]})
        self.assertEqual(at_point({(2, 1): [1, 3], (0, 0): [5, 0]}, (3, 2), 2), [23, 54])
        self.assertEqual(at_point({}, (3, 2), 2), [0, 0])
        self.assertEqual(at_point({(): [4]}, (), 1), [4])
        self.assertIsNone(first_point([]))
        self.assertIsNone(first_point([{}, {}]))
        self.assertEqual(first_point([{}, {(): [0, 1]}]), ())

    def test_first_points_by_a_prime(self):
        self.assertIsNone(first_point([without_zeros({})], 3))
        self.assertEqual(first_point([{(2,): [1], (1,): [-1]}], 3), (2,))
        self.assertEqual(first_point([{(1,): [1, 0]}], 2), (1,))
        self.assertEqual(first_point([{(1, 2): [1], (1, 1): [-1], (0, 1): [2], (0, 2): [1]}], 3), (0, 2))
        self.assertEqual(first_point([{(2,): [1], (1,): [-3], (0,): [2]}], 5), (0,))
        self.assertEqual(first_point([{(0,): [4], (1,): [1]}], 5), (0,))
        self.assertEqual(first_point([{(0,): [5], (1,): [1]}], 5), (1,))

    def test_first_points(self):
        source = random.Random(2)
        seen = {}
        for _ in range(400):
            fields = source.randint(1, 3)
            factors = [source.choice([[1], [0, 1], [0, -1, 1], [-2, 1], [0, 2, -3, 1]]) for _ in range(fields)]
            bundles = []
            for _ in range(source.randint(1, 2)):
                bundle = {}
                for powers in itertools.product(*[range(len(one)) for one in factors]):
                    number = 1
                    for power, one in zip(powers, factors):
                        number *= one[power]
                    bundle[powers] = [number * source.choice([1, 1, 2]), number]
                bundles.append(without_zeros(bundle))
            expected = [point for point in itertools.product(range(4), repeat=fields)
                        if any([not is_zero(at_point(bundle, point, 2)) for bundle in bundles])]
            found = first_point(bundles)
            self.assertEqual(found, expected[0])
            seen[found] = True
        self.assertGreater(len(seen), 20)


class MachinesTest(unittest.TestCase):
    def test_sources_and_what_is_told(self):
        loop = Loop(NUMBERS, {"b": 0, "a": 0}, {}, "2*a + 1/2")
        self.assertEqual(sources_of(loop), ["1", "b", "a"])
        self.assertEqual([str(number) for number in told_by(loop)], ["1/2", "0", "2"])

    def test_moves(self):
        source = random.Random(3)
        kinds = [("b", ["x", "y"]), ("go", [])]
        for _ in range(60):
            models = [drawn_model(source, kinds, names, 3) for names in (["a", "b"], ["c", "d", "e"], [])]
            machine = machine_of([model.loop() for model in models])
            vector, factor = machine.begins, machine.begins[0]
            rows = drawn_rows(source, kinds, 4, False)
            for row in rows:
                bundle = machine.moved(row[0], vector)
                self.assertFalse(any([is_zero(one) for one in bundle.values()]))
                covector = [source.randint(-3, 3) for _ in vector]
                before = at_point(machine.drawn(row[0], covector), row[1:], len(vector))
                behind = at_point(bundle, row[1:], len(vector))
                self.assertEqual(dot(covector, behind), dot(before, vector))
                vector, factor = behind, factor * machine.scales[row[0]]
            expected = [1] + [number for model in models for number in model.behind(rows).values()]
            self.assertEqual([Fraction(number, factor) for number in vector], expected)

    def test_first_lists(self):
        source = random.Random(4)
        for _ in range(60):
            kinds = source.choice([[("b", ["x", "y"])], [("go", []), ("row", ["x"])], [("up", []), ("down", [])]])
            model = drawn_model(source, kinds, ["a", "b"], 3)
            machine = machine_of([model.loop()])
            span = Span()
            expected = [rows for rows in grid_lists(kinds, model.powers(), 2)
                        if span.take([1, *model.behind(rows).values()])]
            found = all_lists(machine)
            self.assertEqual([rows for rows, _ in found], expected)
            for rows, vector in found:
                self.assertEqual([Fraction(number, vector[0]) for number in vector],
                                 [1, *model.behind(rows).values()])
            aim = [source.randint(-1, 1) for _ in range(3)]
            hit = [rows for rows, vector in found if dot(aim, vector) != 0]
            self.assertEqual(first_list(machine, aim), hit[0] if hit else None)
            if hit:
                self.assertEqual([rows for rows, _ in first_lists(machine, aim)], expected[:expected.index(hit[0]) + 1])

    def test_machines_by_a_prime(self):
        loop = Loop(NUMBERS, {"a": 2, "b": 3}, {"row": {"a": "x^5*a + x^4 + x", "b": "x^3*b - 7*x^2 + 5"}}, "a")
        for prime in (2, 3, 5, 7):
            machine = machine_by_prime([loop], prime)
            self.assertEqual(machine.prime, prime)
            for power in [one for powers in machine.moves["row"] for one in powers]:
                self.assertLess(power, prime)
            for number in range(-3, 9):
                behind = at_point(machine.moved("row", machine.begins), (number,), 3)
                expected = [1, *loop.behind([("row", number)]).values()]
                self.assertEqual(cut(behind, prime), cut(expected, prime))

    def test_rests_of_bundles(self):
        space = Space(2)
        bundle = {(0,): [1, 0], (1,): [2, 2]}
        self.assertEqual(rests(space, bundle), bundle)
        space.widen([3, 3])
        self.assertEqual(list(rests(space, bundle)), [(0,)])
        space.widen([0, 1])
        self.assertEqual(rests(space, bundle), {})

    def test_numbers(self):
        changes = {"row": {"a": "1/3*x*a + 1/2", "b": "2*b"}}
        machine = machine_of([Loop(NUMBERS, {"a": Ratio(1, 2), "b": 3}, changes, "a")])
        self.assertEqual(machine.begins, [2, 1, 6])
        self.assertEqual(machine.scales, {"row": 6})
        self.assertEqual(machine.moved("row", [2, 1, 6]), {(0,): [12, 6, 72], (1,): [0, 2, 0]})
        self.assertEqual([value(Ratio(1, 2)), value(3)], [Fraction(1, 2), 3])


if __name__ == "__main__":
    unittest.main()
