"""Point [12]: loop_text and read_loop."""

import unittest
from unittest import mock

from everylist.errors import NoText
from everylist.loops import Loop
from everylist.ratios import Ratio
from everylist.rows import Rows
from everylist.texts import loop_text, read_loop

LONG = 10 ** 30 - 1
ROUND = 10 ** 29
SHOP = Rows([["buy", ["price", "many"]], ["note", []], ["pay", ["sum"]]])
CHANGES = {"pay": {"total": "-sum + total"}, "buy": {"count": "1 + count", "total": "total + many*price^2*2/4"}}
BILL = Loop(SHOP, {"total": 0, "count": Ratio(-7, 3)}, CHANGES, "-1/2*count + total")
TEXT = """\
rows buy price many
rows note
rows pay sum
start total 0
start count -7/3
on buy total = total + 1/2*price^2*many
on buy count = count + 1
on pay total = total - sum
tell total - 1/2*count
"""


def loops():
    """Loops of all kinds with their texts."""
    row = Rows([["row", ["x"]]])
    short = [
        (Loop(Rows([]), {}, {}, "0"), "tell 0\n"),
        (Loop(Rows([]), {"s": 5}, {}, "-s"), "start s 5\ntell -s\n"),
        (Loop(Rows([["on", []]]), {}, {}, "-1/2"), "rows on\ntell -1/2\n"),
        (Loop(row, {"s": 0}, {"row": {"s": "0"}}, "0"), "rows row x\nstart s 0\non row s = 0\ntell 0\n"),
        (Loop(row, {"s": Ratio(4, 2)}, {"row": {"s": "1*s"}}, "s - s"), "rows row x\nstart s 2\ntell 0\n"),
        (Loop(row, {"row": 0, "rows": 1}, {"row": {"rows": "row"}}, "rows"),
         "rows row x\nstart row 0\nstart rows 1\non row rows = row\ntell rows\n"),
        (Loop(row, {"tell": 0, "on": 1, "start": 2}, {"row": {"on": "-tell", "tell": "x^12*on"}}, "tell - start"),
         "rows row x\nstart tell 0\nstart on 1\nstart start 2\non row tell = x^12*on\non row on = -tell\n"
         "tell tell - start\n"),
        (Loop(row, {"s": Ratio(-LONG, LONG - 1)}, {"row": {"s": f"{LONG}/{ROUND}*s - {LONG}*x^2"}}, f"{LONG}*s"),
         f"rows row x\nstart s -{LONG}/{LONG - 1}\non row s = {LONG}/{ROUND}*s - {LONG}*x^2\ntell {LONG}*s\n"),
    ]
    return [(BILL, TEXT), *short]


class LoopTextTest(unittest.TestCase):
    def test_texts(self):
        for loop, text in loops():
            self.assertEqual(loop_text(loop), text)

    def test_registers_that_just_stay_are_not_written(self):
        changes = {"buy": {"total": "total*1", "count": "2*count - count"},
                   "note": {"total": "total", "count": "total"}}
        loop = Loop(SHOP, {"total": 1, "count": 2}, changes, "total")
        self.assertEqual(loop_text(loop), "rows buy price many\nrows note\nrows pay sum\nstart total 1\nstart count 2\n"
                                          "on note count = total\ntell total\n")

    def test_great_powers(self):
        loop = Loop(Rows([["row", ["x"]]]), {"s": 0}, {"row": {"s": "x^99*x*s"}}, "s")
        text = "rows row x\nstart s 0\non row s = x^100*s\ntell s\n"
        self.assertEqual(loop_text(loop), text)
        self.assertEqual(read_loop(text), loop)

    def test_the_loop_stays(self):
        loop = Loop(SHOP, {"total": 0, "count": Ratio(-7, 3)}, CHANGES, "-1/2*count + total")
        loop_text(loop)
        self.assertEqual(loop, BILL)
        self.assertEqual(loop_text(loop), loop_text(loop))


class ReadLoopTest(unittest.TestCase):
    def test_texts(self):
        for loop, text in loops():
            told = read_loop(text)
            self.assertIs(type(told), Loop)
            self.assertEqual(told, loop)
            self.assertEqual(told.registers(), loop.registers())
            self.assertEqual(loop_text(told), text)

    def test_the_loop_that_was_read(self):
        told = read_loop(TEXT)
        self.assertEqual(told.rows, SHOP)
        self.assertEqual(told.start("count"), Ratio(-7, 3))
        self.assertEqual(told.change("buy", "total"), "total + 1/2*price^2*many")
        self.assertEqual(told.change("note", "total"), "total")
        self.assertEqual(told.powers(), {"buy": [2, 1], "note": [], "pay": [1]})
        rows = [("buy", 4, 5), ("note",), ("pay", Ratio(1, 2))]
        self.assertEqual(told.run(rows), BILL.run(rows))

    def test_many_fields(self):
        text = "rows row a b c d e\nstart s 0\non row s = a*b*c*d*e*s + e^99\ntell s\n"
        self.assertEqual(loop_text(read_loop(text)), text)
        self.assertEqual(read_loop(text).powers(), {"row": [1, 1, 1, 1, 99]})


class NoTextTest(unittest.TestCase):
    def assert_none(self, text):
        with self.assertRaises(NoText, msg=text) as caught:
            read_loop(text)
        self.assertIs(caught.exception.text, text)

    def assert_none_with(self, old, *others):
        """Asserts that the text of the bill is none with this part replaced by any of the others."""
        self.assertEqual(TEXT.count(old), 1, old)
        for other in others:
            self.assert_none(TEXT.replace(old, other))

    def test_any_objects(self):
        for thing in (None, True, 0, 1, 1.5, b"tell 0\n", [], ["tell 0"], (), {}, object(), Ratio(1), BILL, SHOP, len,
                      mock.ANY):
            self.assert_none(thing)

    def test_other_texts(self):
        for text in ("", "\n", " ", "tell", "tell\n", "tell \n", "tell 0", "tell 0\n\n", "\ntell 0\n", " tell 0\n",
                     "tell 0 \n", "tell  0\n", "Tell 0\n", "tells 0\n", "tell 0\r\n", "tell 0\ntell 0\n",
                     "rows\ntell 0\n", "rows \ntell 0\n", "start\ntell 0\n", "start s\ntell 0\n", "start s \ntell 0\n",
                     "on\ntell 0\n",
                     "start s 0\non\ntell 0\n", "rows a\nstart s 0\non a s = \ntell 0\n", "more 0\ntell 0\n", "0\n",
                     "rows a\nstart s 0\non a s\ntell 0\n", "rows a\nstart s 0\non a s =\ntell 0\n", "rows a\n"):
            self.assert_none(text)

    def test_lines_that_lack_or_stand_twice(self):
        lines = TEXT.splitlines(keepends=True)
        for place, line in enumerate(lines):
            self.assert_none("".join([*lines[:place], line, *lines[place:]]))
            self.assert_none("".join([*lines, line]))
            self.assert_none("".join([line, *lines]))
            left = "".join([*lines[:place], *lines[place + 1:]])
            # Without a change, or a kind that stands nowhere else, the text is that of another loop.
            if line.startswith("on") or line == "rows note\n":
                self.assertNotEqual(read_loop(left), BILL)
            else:
                self.assert_none(left)

    def test_lines_in_another_order(self):
        lines = TEXT.splitlines(keepends=True)
        for place in range(1, len(lines)):
            one, two = lines[place - 1:place + 1]
            swapped = "".join([*lines[:place - 1], two, one, *lines[place + 1:]])
            # With its kinds in another order the text is that of another loop, if its changes are in this order, too.
            if one.startswith("rows") and two.startswith("rows"):
                self.assertNotEqual(read_loop(swapped), BILL)
            else:
                self.assert_none(swapped)
        self.assert_none("rows b\nrows a\nstart s 0\non a s = 0\non b s = 0\ntell s\n")
        self.assert_none("rows a\nstart s 0\nstart t 0\non a t = 0\non a s = 0\ntell s\n")
        self.assert_none("".join(lines[::-1]))

    def test_single_signs(self):
        signs = " \n=+-*/^01279abx~"
        for place in range(len(TEXT)):
            self.assert_other(TEXT[:place] + TEXT[place + 1:])
            for sign in signs:
                self.assert_other(TEXT[:place] + sign + TEXT[place:])
                self.assert_other(TEXT[:place] + sign + TEXT[place + 1:])

    def assert_other(self, text):
        """Asserts that a text is none, or the one text of the loop that is read."""
        try:
            loop = read_loop(text)
        except NoText as none:
            self.assertIs(none.text, text)
        else:
            self.assertEqual(loop_text(loop), text)
            self.assertIs(loop == BILL, text == TEXT)

    def test_spaces_and_lines(self):
        self.assert_none_with("rows buy price", " rows buy price", "rows  buy price", "rows buy  price",
                              "rowsbuy price")
        self.assert_none_with("price many\n", "price many \n", "pricemany\n", "price many")
        self.assert_none_with("rows note\n", "rows note \n", "rows note\n\n", "rows note\r\n", "rows note\trows\n",
                              "rows note ", "\nrows note\n")
        self.assert_none_with("total 0", "total  0", "total 0 ", "total\n0", "total0")
        self.assert_none_with("count = ", "count  = ", "count =", "count= ", "count =  ", "count=")
        self.assert_none_with("count + 1", "count+1", "count +1", "count+ 1", "count  + 1", "count + 1 ")
        self.assert_none_with("tell total", "tell  total", "telltotal", " tell total", "tell\ntotal")
        self.assert_none_with("*count\n", "*count", "*count \n", "*count\n\n", "*count\n ", "* count\n")

    def test_numbers_not_in_their_one_form(self):
        self.assert_none_with("total 0", "total 00", "total -0", "total 0/1", "total +0", "total 0.0", "total",
                              "total ", "total 0 0")
        self.assert_none_with("-7/3", "-14/6", "7/-3", "-7/03", "-07/3", "- 7/3", "-7/0", "-6/3", "-7/1", "--7/3", "x")
        self.assert_none_with("+ 1/2*price", "+ 2/4*price", "+ 01/2*price", "+ 1/02*price", "+ 1/0*price",
                              "+ 2/1*price", "+ 1*price", "+ 0*price", "+ -1/2*price", "- -1/2*price")
        self.assert_none_with("count + 1", "count + 1/1", "count + 01", "count + 0", "1*count + 1", "0 + count + 1")

    def test_sums_not_in_their_one_text(self):
        self.assert_none_with("1/2*price^2*many", "1/2*price^2*many^1", "1/2*price^2*many^0", "1/2*many*price^2",
                              "1/2*price*price*many", "1/2*price^02*many", "1/2*price^2*1*many", "price^2*many*1/2")
        self.assert_none_with("count + 1", "1 + count", "+count + 1", "count", "count + 1 - 0",
                              "count + 1 + price - price")
        self.assert_none_with("total - sum", "-sum + total", "total - 1*sum", "total", "total - sum + 0", "")
        self.assert_none_with("total - 1/2*count", "-1/2*count + total", "total - count*1/2", "+total - 1/2*count",
                              "total - count + 1/2*count", "")

    def test_registers_that_just_stay(self):
        for line in ("on note total = total\n", "on note count = count\n"):
            self.assert_none(TEXT.replace("on pay", f"{line}on pay"))
        self.assert_none(TEXT.replace("tell", "on pay count = count\ntell"))

    def test_names_that_cannot_be(self):
        self.assert_none_with("rows note", "rows buy", "rows Note", "rows abcdefghi", "rows 1", "rows n-n")
        self.assert_none_with("price many\n", "price price\n", "price x1\n", "price total\n", "many price many\n")
        self.assert_none_with("rows pay sum", "rows pay abcdefghi", "rows pay count", "rows pay", "rows sum pay")
        self.assert_none_with("start total", "start price", "start count", "start Total", "start t1", "start other")
        self.assert_none_with("on pay total", "on other total", "on Pay total", "on total", "on pay other",
                              "on pay sum")
        self.assert_none_with("on buy count", "on buy total", "on pay count", "on note count x")
        self.assert_none_with("total - sum", "total - price", "total - other", "total - total*count")
        self.assert_none_with("1/2*count\n", "1/2*price\n", "1/2*other\n", "1/2*total*count\n", "1/2*count^1\n")

    def test_other_words(self):
        self.assert_none_with("rows note", "row note", "Rows note", "note", "kind note")
        self.assert_none_with("start total", "starts total", "total", "Start total", "begin total")
        self.assert_none_with("on pay", "at pay", "pay", "On pay", "on on pay")
        self.assert_none_with("tell total", "tells total", "total", "Tell total", "tell tell total")
        self.assert_none_with("count = ", "count == ", "count : ", "count ", "count = = ", "count + ")


if __name__ == "__main__":
    unittest.main()
