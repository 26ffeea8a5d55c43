"""Points [7] and [8]: Rows, its grids and its lists."""

import copy
import unittest
from itertools import product
from unittest import mock

from everylist.errors import BadKind, NoKind
from everylist.ratios import Ratio
from everylist.rows import Rows

SHOP = [["buy", ["price", "many"]], ["note", []]]
ANY_OBJECTS = [None, True, False, 0, 1, -1, 1.5, "", "a", "ab", "buy", b"ab", [], (), {}, set(), {"a", "b"},
               {"a": [], "b": []}, object(), Rows([]), Ratio(1, 2), len, Rows]


class KindsTest(unittest.TestCase):
    def assert_kinds(self, rows, kinds):
        """Asserts that rows have these pairs of kinds and fields."""
        self.assertEqual(rows.kinds(), [kind for kind, _ in kinds])
        self.assertEqual([rows.fields_of(kind) for kind, _ in kinds], [fields for _, fields in kinds])

    def test_kinds_and_fields_in_order(self):
        self.assert_kinds(Rows(SHOP), SHOP)
        self.assert_kinds(Rows([["z", ["y", "x"]], ["a", ["c", "b", "a"]], ["m", []]]),
                          [("z", ["y", "x"]), ("a", ["c", "b", "a"]), ("m", [])])

    def test_names_to_the_edge(self):
        self.assert_kinds(Rows([["abcdefgh", ["stuvwxyz", "a"]]]), [("abcdefgh", ["stuvwxyz", "a"])])

    def test_no_kinds(self):
        self.assertEqual(Rows([]).kinds(), [])
        self.assertEqual(Rows(()).kinds(), [])

    def test_more_than_the_limits(self):
        kinds = [(kind, list("zyxwvutsrq")) for kind in "qwertyuiop"]
        self.assert_kinds(Rows(kinds), kinds)

    def test_names_may_stand_for_several_things(self):
        kinds = [("a", ["a", "b"]), ("b", ["b", "a"]), ("c", ["a"])]
        self.assert_kinds(Rows(kinds), kinds)

    def test_tuples_for_lists(self):
        told = Rows((("buy", ("price", "many")), ["note", ()]))
        self.assert_kinds(told, SHOP)
        self.assertIs(type(told.kinds()), list)
        self.assertIs(type(told.fields_of("buy")), list)
        self.assertEqual(told, Rows(SHOP))

    def test_what_is_returned_is_new(self):
        rows = Rows(SHOP)
        rows.kinds().append("more")
        rows.kinds().clear()
        rows.fields_of("buy").append("more")
        rows.fields_of("note").append("more")
        self.assert_kinds(rows, SHOP)
        self.assertIsNot(rows.kinds(), rows.kinds())
        self.assertIsNot(rows.fields_of("buy"), rows.fields_of("buy"))

    def test_what_was_passed_stays_and_may_be_changed(self):
        kinds = copy.deepcopy(SHOP)
        rows = Rows(kinds)
        rows.grid({"buy": [1, 1], "note": []})
        self.assertEqual(kinds, SHOP)
        kinds[0][1].append("more")
        kinds[0][1][0] = "other"
        kinds[1][0] = "memo"
        kinds.append(["more", []])
        self.assert_kinds(rows, SHOP)
        self.assertEqual(rows, Rows(SHOP))
        self.assertEqual(rows.grid({"buy": [0, 0], "note": []}), [("buy", 0, 0), ("note",)])

    def test_no_such_kind(self):
        rows = Rows(SHOP)
        for thing in [*[thing for thing in ANY_OBJECTS if thing != "buy"], "price", "Buy", "buy ", "buyy", "bu",
                      ["buy"], ("buy",), ("note", []), mock.ANY, b"buy"]:
            with self.assertRaises(NoKind) as caught:
                rows.fields_of(thing)
            self.assertIs(caught.exception.kind, thing)
        self.assert_kinds(rows, SHOP)
        with self.assertRaises(NoKind):
            Rows([]).fields_of("buy")


class BadKindTest(unittest.TestCase):
    def assert_bad(self, thing):
        """Asserts that a thing is refused wherever it stands, and that the first such thing is told."""
        good = [["first", ["x", "y"]], ["second", []], ("third", ("x",))]
        for place in range(4):
            kinds = good[:place] + [thing] + good[place:]
            with self.assertRaises(BadKind) as caught:
                Rows(kinds)
            self.assertEqual(caught.exception.index, place)
            self.assertIs(type(caught.exception.index), int)
            with self.assertRaises(BadKind) as caught:
                Rows(tuple(kinds) + (None, ["first", []], thing))
            self.assertEqual(caught.exception.index, place)

    def test_no_pairs(self):
        for thing in ANY_OBJECTS:
            self.assert_bad(thing)
        for thing in (["a"], ("a",), ["a", [], []], ("a", [], []), [[], "a"], [["x"], "a"], "ab", ["a", [], None],
                      [[]], [["a", []]], [["a", []], ["b", []]], range(2), iter(["a", []])):
            self.assert_bad(thing)

    def test_bad_names_of_kinds(self):
        for name in ("", "abcdefghi", "A", "buY", "a1", "1", " a", "a ", "a b", "a\n", "_", "a_b", "-", "~", "\u00e9",
                     None, True, False, 0, 1, 1.5, b"a", [], ["a"], ("a",), {}, {"a"}, object(), Ratio(1), Rows([])):
            self.assert_bad([name, ["x"]])
            self.assert_bad((name, ()))

    def test_fields_that_are_no_list(self):
        for fields in (None, True, 0, 1, "", "x", "xyz", b"", b"x", {}, {"x": 1}, set(), {"x"}, 1.5, object(), range(0),
                       iter([]), Rows([]), Ratio(1)):
            self.assert_bad(["a", fields])
            self.assert_bad(("a", fields))

    def test_fields_that_are_no_names(self):
        for name in ("", "abcdefghi", "X", "x1", "x ", "x\n", "x_y", None, True, False, 0, 1, 1.5, b"x", [], ["x"],
                     ("x",), {}, {"x"}, object(), Ratio(1), Rows([])):
            for fields in ([name], ["x", name], [name, "x"], ["x", "y", name], (name,), ("x", name)):
                self.assert_bad(["a", fields])

    def test_a_field_twice(self):
        for fields in (["x", "x"], ("x", "x"), ["x", "y", "x"], ["y", "x", "x"], ["x", "x", "y"], ["x", "x", "x"]):
            self.assert_bad(["a", fields])

    def test_an_earlier_kind(self):
        for kinds, index in (([["a", []], ["a", []]], 1), ([["a", ["x"]], ["b", []], ["a", ["y"]]], 2),
                             ([["a", []], ["b", []], ("b", ())], 2), ([["a", []], ["b", []], ["b", []], ["a", []]], 2),
                             ([["a", []], ["a", []], ["b", ["x", "x"]]], 1), ([["b", ["x", "x"]], ["b", []]], 0),
                             ([["a", []], ["b", ["x", "x"]], ["a", []]], 1)):
            with self.assertRaises(BadKind) as caught:
                Rows(kinds)
            self.assertEqual(caught.exception.index, index)

    def test_what_is_refused_stays(self):
        kinds = [["a", ["x"]], ["b", ["y", "y"]]]
        with self.assertRaises(BadKind):
            Rows(kinds)
        self.assertEqual(kinds, [["a", ["x"]], ["b", ["y", "y"]]])


class EqualRowsTest(unittest.TestCase):
    def assert_unlike(self, one, two):
        self.assertIs(Rows(one) == Rows(two), False)
        self.assertIs(Rows(two) == Rows(one), False)
        self.assertIs(Rows(one) != Rows(two), True)

    def test_the_same(self):
        for kinds in ([], SHOP, [["a", []]], [["a", ["x"]], ["b", ["x"]]], [["b", ["y", "x"]], ["a", []]]):
            self.assertIs(Rows(kinds) == Rows(copy.deepcopy(kinds)), True)
            self.assertIs(Rows(kinds) != Rows(tuple([(kind, tuple(fields)) for kind, fields in kinds])), False)

    def test_other_orders(self):
        self.assert_unlike([["a", ["x"]], ["b", ["y"]]], [["b", ["y"]], ["a", ["x"]]])
        self.assert_unlike([["a", ["x", "y"]]], [["a", ["y", "x"]]])
        self.assert_unlike([["a", []], ["b", []]], [["b", []], ["a", []]])

    def test_one_more_or_less(self):
        self.assert_unlike([], [["a", []]])
        self.assert_unlike([["a", []]], [["a", []], ["b", []]])
        self.assert_unlike([["a", ["x"]]], [["a", []]])
        self.assert_unlike([["a", ["x"]]], [["a", ["x", "y"]]])
        self.assert_unlike([["a", ["x"]], ["b", ["x"]]], [["a", ["x"]], ["b", []]])

    def test_other_names(self):
        self.assert_unlike([["a", ["x"]]], [["b", ["x"]]])
        self.assert_unlike([["a", ["x"]]], [["a", ["y"]]])
        self.assert_unlike([["a", ["x"]], ["b", []]], [["a", []], ["b", ["x"]]])

    def test_equal_to_nothing_else(self):
        for kinds in ([], SHOP):
            rows = Rows(kinds)
            for thing in [kinds, tuple(kinds), dict(kinds), rows.kinds(), mock.ANY, None, 0, True, False, "", object(),
                          Rows]:
                self.assertIs(rows == thing, False)
                self.assertIs(rows != thing, True)


class IsRowTest(unittest.TestCase):
    rows = Rows([["buy", ["price", "many"]], ["note", []], ["pay", ["sum"]]])

    def test_rows(self):
        for row in (["buy", 3, 2], ["buy", -3, 0], ["buy", 10 ** 40, Ratio(-1, 3)], ["buy", Ratio(1, 2), Ratio(4)],
                    ["note"], ["pay", 0], ["pay", Ratio(0)]):
            self.assertIs(self.rows.is_row(row), True, row)
            self.assertIs(self.rows.is_row(tuple(row)), True, row)

    def test_other_kinds_and_counts(self):
        for row in (["buy"], ["buy", 1], ["buy", 1, 2, 3], ["note", 1], ["note", []], ["note", None], ["pay"],
                    ["pay", 1, 1], ["sell", 1, 2], ["sell"], ["price", 1, 2], ["Buy", 1, 2], ["", 1, 2], [1, 2],
                    [1, 2, "buy"], ["buy", ["price", "many"]], ["buy", "price", "many"], ["note", "note"], [], [""]):
            self.assertIs(self.rows.is_row(row), False, row)
            self.assertIs(self.rows.is_row(tuple(row)), False, row)

    def test_things_in_the_place_of_a_number(self):
        for thing in (True, False, None, "", "1", "1/2", 1.0, 1.5, [], [1], (), (1,), {}, {1}, b"1", object(),
                      Rows([])):
            for row in (["buy", thing, 1], ["buy", 1, thing], ["buy", thing, thing], ["pay", thing], ["note", thing]):
                self.assertIs(self.rows.is_row(row), False, row)
                self.assertIs(self.rows.is_row(tuple(row)), False, row)

    def test_things_in_the_place_of_a_kind(self):
        for thing in (None, True, 0, 1, 1.5, b"note", [], ["note"], ("note",), {}, {"note": 1}, {"note"}, object(),
                      mock.ANY, Rows([]), Ratio(1)):
            for row in ([thing], [thing, 1], [thing, 1, 2]):
                self.assertIs(self.rows.is_row(row), False)
                self.assertIs(self.rows.is_row(tuple(row)), False)

    def test_any_objects(self):
        for thing in [*ANY_OBJECTS, "note", "buy", ["note", "note"], {"note": 1}, {"note"}, iter(["note"]), mock.ANY,
                      {0: "note"}, [("note",)], (("note",),), [["buy", 3, 2]]]:
            self.assertIs(self.rows.is_row(thing), False)
            self.assertIs(Rows([]).is_row(thing), False)

    def test_what_was_asked_for_stays(self):
        row = ["buy", 1, [2]]
        self.rows.is_row(row)
        self.assertEqual(row, ["buy", 1, [2]])


class GridTest(unittest.TestCase):
    def assert_tuples(self, rows, expected):
        self.assertEqual(rows, expected)
        self.assertIs(type(rows), list)
        self.assertEqual({type(row) for row in rows} - {tuple}, set())

    def test_the_kinds_in_order_whatever_the_dict(self):
        rows = Rows([["b", ["x"]], ["c", []], ["a", ["y"]]])
        expected = [("b", 0), ("b", 1), ("c",), ("a", 0), ("a", 1), ("a", 2)]
        self.assert_tuples(rows.grid({"a": [2], "b": [1], "c": []}), expected)
        self.assert_tuples(rows.grid({"c": (), "b": (1,), "a": (2,)}), expected)

    def test_the_first_field_decides(self):
        rows = Rows([["row", ["z", "a"]]])
        self.assert_tuples(rows.grid({"row": [1, 2]}),
                           [("row", 0, 0), ("row", 0, 1), ("row", 0, 2), ("row", 1, 0), ("row", 1, 1), ("row", 1, 2)])
        self.assert_tuples(rows.grid({"row": [2, 0]}), [("row", 0, 0), ("row", 1, 0), ("row", 2, 0)])
        self.assert_tuples(rows.grid({"row": [0, 2]}), [("row", 0, 0), ("row", 0, 1), ("row", 0, 2)])

    def test_powers_of_zero(self):
        rows = Rows([["a", ["x", "y", "z"]], ["b", ["x"]]])
        self.assert_tuples(rows.grid({"a": [0, 0, 0], "b": [0]}), [("a", 0, 0, 0), ("b", 0)])

    def test_no_fields_and_no_kinds(self):
        self.assert_tuples(Rows([["a", []], ["b", []]]).grid({"a": [], "b": []}), [("a",), ("b",)])
        self.assert_tuples(Rows([]).grid({}), [])

    def test_numbers_above_nine_stand_behind_lesser_ones(self):
        self.assert_tuples(Rows([["a", ["x"]]]).grid({"a": [11]}), [("a", number) for number in range(12)])

    def test_several_fields(self):
        rows = Rows([["a", ["x", "y", "z"]], ["b", ["y", "x"]]])
        expected = [("a", *row) for row in product(range(3), range(2), range(4))]
        expected += [("b", *row) for row in product(range(1), range(3))]
        self.assert_tuples(rows.grid({"a": [2, 1, 3], "b": [0, 2]}), expected)

    def test_two_thousand_rows_and_more(self):
        rows = Rows([["a", ["x", "y", "z"]], ["b", ["x"]]])
        expected = [("a", *row) for row in product(range(20), repeat=3)] + [("b", number) for number in range(2001)]
        self.assert_tuples(rows.grid({"a": [19, 19, 19], "b": [2000]}), expected)

    def test_what_is_returned_is_new_and_what_was_passed_stays(self):
        rows = Rows(SHOP)
        powers = {"note": [], "buy": [1, 0]}
        expected = [("buy", 0, 0), ("buy", 1, 0), ("note",)]
        grid = rows.grid(powers)
        grid.append("more")
        grid[0] = "other"
        self.assertEqual(rows.grid(powers), expected)
        self.assertEqual(list(powers.items()), [("note", []), ("buy", [1, 0])])
        powers["buy"][0] = 5
        self.assertEqual(rows.grid({"note": [], "buy": [1, 0]}), expected)


class ListsTest(unittest.TestCase):
    def assert_lists(self, lists, expected):
        self.assertEqual(lists, expected)
        self.assertIs(type(lists), list)
        self.assertEqual({type(rows) for rows in lists} - {list}, set())
        self.assertEqual({type(row) for rows in lists for row in rows} - {tuple}, set())

    def test_of_no_rows(self):
        self.assert_lists(Rows(SHOP).lists({"buy": [2, 2], "note": []}, 0), [[]])
        self.assert_lists(Rows([]).lists({}, 0), [[]])

    def test_of_one_row(self):
        self.assert_lists(Rows(SHOP).lists({"buy": [0, 1], "note": []}, 1),
                          [[("buy", 0, 0)], [("buy", 0, 1)], [("note",)]])

    def test_of_two_rows(self):
        self.assert_lists(Rows([["b", ["x"]], ["a", []]]).lists({"a": (), "b": (1,)}, 2),
                          [[("b", 0), ("b", 0)], [("b", 0), ("b", 1)], [("b", 0), ("a",)],
                           [("b", 1), ("b", 0)], [("b", 1), ("b", 1)], [("b", 1), ("a",)],
                           [("a",), ("b", 0)], [("a",), ("b", 1)], [("a",), ("a",)]])

    def test_of_many_rows(self):
        rows = Rows([["b", ["x", "y"]], ["a", ["x"]], ["c", []]])
        powers = {"a": [0], "b": [1, 1], "c": []}
        for many in range(5):
            self.assert_lists(rows.lists(powers, many), [list(one) for one in product(rows.grid(powers), repeat=many)])

    def test_of_one_kind_of_row(self):
        rows = Rows([["a", []]])
        for many in (1, 3, 40, 100):
            self.assert_lists(rows.lists({"a": []}, many), [[("a",)] * many])

    def test_of_no_kinds(self):
        for many in (1, 2, 3, 40):
            self.assert_lists(Rows([]).lists({}, many), [])

    def test_two_thousand_lists_and_more(self):
        found = Rows([["a", ["x"]]]).lists({"a": [44]}, 2)
        self.assert_lists(found, [[("a", one), ("a", two)] for one in range(45) for two in range(45)])
        found = Rows([["a", ["x"]]]).lists({"a": [1]}, 11)
        self.assert_lists(found, [[("a", number) for number in one] for one in product(range(2), repeat=11)])

    def test_what_is_returned_is_new(self):
        rows = Rows([["a", ["x"]]])
        for many in range(4):
            expected = [[("a", number) for number in one] for one in product(range(2), repeat=many)]
            found = rows.lists({"a": [1]}, many)
            found[0].append("more")
            if many:
                found[-1][0] = "other"
            self.assertEqual(found[1:-1], expected[1:-1])
            found.append([])
            self.assert_lists(rows.lists({"a": [1]}, many), expected)

    def test_what_was_passed_stays_and_may_be_changed(self):
        rows = Rows(SHOP)
        powers = {"note": [], "buy": [1, 0]}
        found = rows.lists(powers, 2)
        self.assertEqual(list(powers.items()), [("note", []), ("buy", [1, 0])])
        expected = copy.deepcopy(found)
        powers["buy"][0] = 7
        powers["note"].append(1)
        powers.clear()
        self.assertEqual(found, expected)


if __name__ == "__main__":
    unittest.main()
