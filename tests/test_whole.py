"""The whole: all examples of the document, and what the package told or built passed on to all else ([1] to [3])."""

import doctest
import random
import unittest
from fractions import Fraction

from reckoning import drawn_model, drawn_rows, number_of, value

from everylist.again import far, parting_rests, recurrence
from everylist.built import after, before, beside, led, minus, only, plus, product, running, scaled, turned
from everylist.comparing import alike, always, parting
from everylist.errors import ListError
from everylist.finding import find_loop
from everylist.forms import beginnings, ends, least, needless, without
from everylist.loops import Loop
from everylist.mends import mends, number_at, places, put_at
from everylist.orders import exchange, idle, idle_fields, once, orderless, undoes
from everylist.polys import Poly
from everylist.ratios import Ratio
from everylist.relations import holds, relations
from everylist.rows import Rows
from everylist.texts import loop_text, read_loop

# As they stand at the end of the document.
EXAMPLES = r"""
>>> from everylist.rows import Rows
>>> shop = Rows([["buy", ["price", "many"]], ["note", []]])
>>> from everylist.loops import Loop
>>> bill = Loop(shop, {"total": 0, "count": 0}, {"buy": {"total": "price*many + total", "count": "count + 1"}}, "total - 1/2*count")
>>> [bill.run([("buy", 3, 2), ("note",), ("buy", 5, 1)]), bill.change("buy", "total"), bill.behind([("buy", 3, 2)])]
[10, 'total + price*many', {'total': 6, 'count': 1}]
>>> numbers = Rows([["row", ["x"]]])
>>> sums = Loop(numbers, {"s": 0, "p": 0, "q": 0}, {"row": {"s": "s + x", "p": "p + x*s", "q": "q + x^2"}}, "p")
>>> late = Loop(numbers, {"s": 0, "p": 0}, {"row": {"s": "s + x", "p": "p + x*s + x^2"}}, "p")
>>> from everylist.comparing import alike, parting
>>> [parting(sums, late).rows, parting(sums, late).tells, alike(sums, sums)]
[[('row', 1)], (0, 1), True]
>>> from everylist.forms import ends, least, needless
>>> [ends(sums), needless(sums), least(sums).change("row", "ra"), least(sums).change("row", "rb")]
[[[], [('row', 1)]], ['q'], '-x*ra + ra + x*rb', '-x*ra + x*rb + rb + x']
>>> from everylist.relations import relations
>>> [str(one) for one in relations(sums, 2)]
['s*s - q - 2*p = 0']
>>> from everylist.orders import exchange, orderless
>>> horner = Loop(numbers, {"h": 0}, {"row": {"h": "10*h + x"}}, "h")
>>> [orderless(sums), exchange(horner, "row", "row").rows, exchange(horner, "row", "row").place]
[True, [('row', 0), ('row', 1)], 0]
>>> from everylist.mends import mends
>>> twice = Loop(numbers, {"s": 0, "p": 0}, {"row": {"s": "s + x", "p": "p + 2*x*s"}}, "p")
>>> [(place, str(number)) for place, number in mends(twice, sums)]
[(('on', 'row', 's', '1', (1,)), '1/2'), (('on', 'row', 'p', 's', (1,)), '1'), (('tell', 'p'), '1/2')]
>>> from everylist.finding import find_loop
>>> find_loop(numbers, {"row": [1]}, 1, lambda rows: sum([row[1] for row in rows])).change("row", "ra")
'ra + x'
>>> from everylist.again import far, recurrence
>>> [recurrence(horner, [("row", 1)]), far(horner, [([("row", 7)], 10 ** 30)], 9)]
[[-10, 11], 7]
"""


class ExamplesTest(unittest.TestCase):
    def test_all_examples_of_the_document(self):
        test = doctest.DocTestParser().get_doctest(EXAMPLES, {}, "the document", None, None)
        self.assertEqual(len(test.examples), 24)
        told = []
        result = doctest.DocTestRunner(verbose=False).run(test, out=told.append)
        self.assertEqual(result.failed, 0, "".join(told))


class WholeTest(unittest.TestCase):
    def loops_of(self, source, kinds, model):
        """Loops that the package told or built, each with what it is to tell by the reckoning of the tests."""
        loop = model.loop()
        some = drawn_rows(source, kinds, 2)
        found = [(loop, model.run), (least(loop), model.run), (read_loop(loop_text(loop)), model.run)]
        found.append((turned(loop), lambda rows: model.run(rows[::-1])))
        found.append((after(loop, some), lambda rows: model.run(some + rows)))
        found.append((before(loop, some), lambda rows: model.run(rows + some)))
        found.append((scaled(loop, Ratio(-2, 3)), lambda rows: Fraction(-2, 3) * model.run(rows)))
        found.append((running(loop), lambda rows: sum([model.run(rows[:k + 1]) for k in range(len(rows))])))
        found.append((plus(loop, least(loop)), lambda rows: 2 * model.run(rows)))
        found.append((minus(turned(loop), loop), lambda rows: model.run(rows[::-1]) - model.run(rows)))
        found.append((only(loop, [kind for kind, _ in kinds]), model.run))
        if len(model.starts) < 3:
            found.append((product(loop, loop), lambda rows: model.run(rows) ** 2))
        other = Loop(loop.rows, {"other": 1}, {}, "other")
        found.append((beside(loop, other), model.run))
        ways = {kind: [(kind, [Poly(fields, {tuple([int(k == at) for k in range(len(fields))]): 1})
                               for at in range(len(fields))])] * 2 for kind, fields in kinds}
        found.append((led(loop, loop.rows, ways), lambda rows: model.run([row for row in rows for _ in range(2)])))
        for place in places(loop)[:1]:
            found.append((put_at(loop, place, number_at(loop, place)), model.run))
        return found

    def test_all_functions_take_what_was_told_or_built(self):
        source = random.Random(101)
        for _ in range(15):
            kinds = source.choice([[("go", [])], [("row", ["x"]), ("note", [])], [("b", ["x", "y"])], []])
            model = drawn_model(source, kinds, ["a", "b", "c"][:source.randint(0, 3)], 2)
            for loop, tell in self.loops_of(source, kinds, model):
                lists = [[]] + [drawn_rows(source, kinds, 4) for _ in range(5)]
                for rows in lists:
                    self.assertEqual(value(loop.run(rows)), tell(rows))
                self.check_forms(loop)
                self.check_relations(loop)
                self.check_orders(loop, lists)
                self.check_blocks(source, kinds, loop, tell)
                self.check_places(loop)

    def check_forms(self, loop):
        one_form = least(loop)
        self.assertTrue(alike(loop, one_form))
        self.assertIsNone(parting(one_form, loop))
        self.assertEqual(least(one_form), one_form)
        self.assertEqual(read_loop(loop_text(one_form)), one_form)
        self.assertEqual(len(ends(loop)), len(one_form.registers()))
        self.assertLessEqual(len(ends(loop)), len(loop.registers()))
        self.assertEqual(len(beginnings(loop)), len(ends(loop)) + 1)
        self.assertEqual([loop.run(end) for end in ends(loop)],
                         [one_form.start(name) for name in one_form.registers()])
        self.assertEqual(always(loop) is None, len(ends(loop)) > 0)
        for name in needless(loop):
            self.assertEqual(least(without(loop, name)), one_form)
        more = plus(loop, Loop(loop.rows, {}, {}, "1"))
        self.assertEqual(parting(loop, more).rows, [])
        self.assertNotEqual(least(more), one_form)

    def check_relations(self, loop):
        for one in relations(loop, 1) + (relations(loop, 2) if len(loop.registers()) < 4 else []):
            self.assertIsNone(holds(loop, one))
        self.assertEqual(relations(least(loop), 1), [])

    def check_orders(self, loop, lists):
        kinds = loop.rows.kinds()
        pairs = [(kind, other) for kind in kinds for other in kinds]
        self.assertEqual(orderless(loop), all([exchange(loop, *pair) is None for pair in pairs]))
        self.assertTrue(orderless(loop) <= alike(loop, turned(loop)))
        for kind in idle(loop):
            self.assertEqual(idle_fields(loop, kind), loop.rows.fields_of(kind))
            self.assertTrue(once(loop, kind) and undoes(loop, kind, kind))
            for rows in lists:
                self.assertEqual(loop.run([row for row in rows if row[0] != kind]), loop.run(rows))
        for pair in pairs:
            found = exchange(loop, *pair)
            if found is not None:
                at = found.place
                rows = found.rows[:at] + [found.rows[at + 1], found.rows[at]] + found.rows[at + 2:]
                self.assertNotEqual(loop.run(rows), loop.run(found.rows))

    def check_blocks(self, source, kinds, loop, tell):
        block = drawn_rows(source, kinds, 2, False)
        numbers = recurrence(loop, block)
        told = [tell(block * many) for many in range(8)]
        for n in range(8 - len(numbers)):
            parts = [value(number) * told[n + k] for k, number in enumerate(numbers)]
            self.assertEqual(sum(parts, Fraction(0)), told[n + len(numbers)])
        texts = loop_text(loop)
        if "/" not in texts:
            self.assertEqual(far(loop, [(block, 3), (block, 2)], 1000), told[5] % 1000)
            self.assertIsNone(parting_rests(loop, scaled(loop, 8), 7))
            # Of loops that are alike there is no list with unlike rests.
            if "/" not in loop_text(least(loop)):
                self.assertIsNone(parting_rests(loop, least(loop), 3))

    def check_places(self, loop):
        if len(loop.registers()) > 3:
            return
        for place in places(loop)[:4]:
            wrong = put_at(loop, place, number_of(value(number_at(loop, place)) + 5))
            if alike(wrong, loop):
                continue
            for where, number in mends(wrong, loop):
                self.assertEqual(least(put_at(wrong, where, number)), least(loop))
            # A number that became 0 has no place any more.
            if place in places(wrong):
                self.assertIn((place, number_at(loop, place)), mends(wrong, least(loop)))

    def test_loops_are_found_by_what_they_tell(self):
        source = random.Random(102)
        for _ in range(25):
            kinds = source.choice([[("go", [])], [("row", ["x"])], [("up", []), ("down", [])]])
            loop = drawn_model(source, kinds, ["a", "b"][:source.randint(0, 2)], 2).loop()
            if max([max(tops, default=0) for tops in loop.powers().values()]) > 1:
                continue
            found = find_loop(loop.rows, loop.powers(), 2, loop.run)
            self.assertEqual(found, least(loop))
            self.assertTrue(alike(turned(found), turned(loop)))
            self.assertEqual(product(found, found).run([]), loop.run([]) * loop.run([]))

    def test_all_errors_are_of_one_base(self):
        shop = Rows([["buy", ["price"]]])
        loop = Loop(shop, {"a": 1}, {}, "a")
        for function, given in ((parting, [loop, Loop(Rows([]), {}, {}, "0")]), (without, [loop, "b"]),
                                (mends, [loop, loop]), (exchange, [loop, "buy", "b"]), (far, [loop, [], 0]), (put_at, [loop, (), 1]),
                                (before, [loop, [()]]), (led, [loop, shop, {}]), (beside, [loop, loop])):
            with self.assertRaises(ListError) as caught:
                function(*given)
            self.assertIs(type(caught.exception).__bases__[0], ListError)
            self.assertIsInstance(caught.exception, ValueError)


if __name__ == "__main__":
    unittest.main()
