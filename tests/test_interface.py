"""The interface: names, arguments and the files in which they are defined."""

import importlib
import inspect
import unittest

# The functions of each file that has landed, with their arguments.
FUNCTIONS = {
    "ratios": {"less": ["one", "two"], "plain": ["number"], "read_number": ["text"]},
    "sums": {"read_sum": ["text", "registers", "fields"], "sum_text": ["parts", "registers"]},
    "texts": {"loop_text": ["loop"], "read_loop": ["text"]},
    "comparing": {"parting": ["one", "other"], "alike": ["one", "other"], "always": ["loop"]},
    "forms": {
        "ends": ["loop"], "beginnings": ["loop"], "least": ["loop"], "without": ["loop", "name"], "needless": ["loop"],
    },
    "relations": {"relations": ["loop", "degree"], "holds": ["loop", "relation"]},
    "orders": {
        "exchange": ["loop", "kind", "other"], "orderless": ["loop"], "idle": ["loop"],
        "idle_fields": ["loop", "kind"], "once": ["loop", "kind"], "undoes": ["loop", "kind", "other"],
    },
    "built": {
        "plus": ["one", "other"], "minus": ["one", "other"], "product": ["one", "other"], "scaled": ["loop", "number"],
        "turned": ["loop"], "after": ["loop", "rows"], "before": ["loop", "rows"], "running": ["loop"],
        "only": ["loop", "kinds"], "led": ["loop", "rows", "ways"], "beside": ["one", "other"],
    },
    "mends": {
        "places": ["loop"], "number_at": ["loop", "place"], "put_at": ["loop", "place", "number"],
        "mends": ["loop", "wish"],
    },
    "finding": {"find_loop": ["rows", "powers", "most", "tell"]},
    "again": {
        "recurrence": ["loop", "block"], "far": ["loop", "blocks", "modulus"],
        "parting_rests": ["one", "other", "prime"],
    },
}

# The classes of each file that has landed, with the arguments of their methods. (The errors: test_errors.)
CLASSES = {
    "ratios": {
        "Ratio": {
            "__init__": ["self", "top", "bottom"], "over": ["self", "other"], "__eq__": ["self", "other"],
            "__str__": ["self"], "__neg__": ["self"],
            "__add__": ["self", "other"], "__radd__": ["self", "other"], "__sub__": ["self", "other"],
            "__rsub__": ["self", "other"], "__mul__": ["self", "other"], "__rmul__": ["self", "other"],
        },
    },
    "rows": {
        "Rows": {
            "__init__": ["self", "kinds"], "kinds": ["self"], "fields_of": ["self", "kind"],
            "is_row": ["self", "thing"], "grid": ["self", "powers"], "lists": ["self", "powers", "many"],
            "__eq__": ["self", "other"],
        },
    },
    "polys": {
        "Poly": {
            "__init__": ["self", "fields", "terms"], "__eq__": ["self", "other"], "__str__": ["self"],
            "__neg__": ["self"], "__add__": ["self", "other"], "__radd__": ["self", "other"],
            "__sub__": ["self", "other"], "__rsub__": ["self", "other"], "__mul__": ["self", "other"],
            "__rmul__": ["self", "other"], "terms": ["self"], "at": ["self", "numbers"], "power": ["self", "k"],
            "put": ["self", "fields", "polys"],
        },
    },
    "loops": {
        "Loop": {
            "__init__": ["self", "rows", "starts", "changes", "told"], "registers": ["self"], "start": ["self", "name"],
            "part": ["self", "kind", "name", "source"], "told_part": ["self", "source"],
            "change": ["self", "kind", "name"], "told": ["self"], "run": ["self", "rows"], "behind": ["self", "rows"],
            "powers": ["self"], "__eq__": ["self", "other"],
        },
    },
    "comparing": {"Parting": {}},
    "relations": {
        "Relation": {
            "__init__": ["self", "terms"], "terms": ["self"], "__eq__": ["self", "other"], "__str__": ["self"],
        },
    },
    "orders": {"Exchange": {}},
}


def arguments(function):
    return list(inspect.signature(function).parameters)


class InterfaceTest(unittest.TestCase):
    def test_functions(self):
        for file, functions in FUNCTIONS.items():
            module = importlib.import_module(f"everylist.{file}")
            for name, expected in functions.items():
                function = getattr(module, name)
                self.assertEqual(arguments(function), expected, name)
                self.assertEqual(function.__module__, f"everylist.{file}")

    def test_classes(self):
        for file, classes in CLASSES.items():
            module = importlib.import_module(f"everylist.{file}")
            for name, methods in classes.items():
                own_class = getattr(module, name)
                self.assertEqual(own_class.__module__, f"everylist.{file}")
                for method, expected in methods.items():
                    self.assertIn(method, vars(own_class), name)
                    self.assertEqual(arguments(vars(own_class)[method]), expected, (name, method))

    def test_the_bottom_has_a_default(self):
        ratio = importlib.import_module("everylist.ratios").Ratio
        self.assertEqual(inspect.signature(ratio).parameters["bottom"].default, 1)

    def test_the_example_of_the_document(self):
        rows = importlib.import_module("everylist.rows").Rows
        loop = importlib.import_module("everylist.loops").Loop
        shop = rows([["buy", ["price", "many"]], ["note", []]])
        self.assertEqual(shop.kinds(), ["buy", "note"])
        self.assertTrue(all([shop.is_row(row) for row in [("buy", 3, 2), ("note",), ("buy", 5, 1)]]))
        bill = loop(shop, {"total": 0, "count": 0}, {"buy": {"total": "price*many + total", "count": "count + 1"}},
                    "total - 1/2*count")
        told = [bill.run([("buy", 3, 2), ("note",), ("buy", 5, 1)]), bill.change("buy", "total"),
                bill.behind([("buy", 3, 2)])]
        self.assertEqual(repr(told), "[10, 'total + price*many', {'total': 6, 'count': 1}]")


if __name__ == "__main__":
    unittest.main()
