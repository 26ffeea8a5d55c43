"""The form of the package's files: those rules of the language that can be read off the code one by one."""

import ast
import builtins
import pathlib
import re
import unittest

FOLDER = pathlib.Path(__file__).resolve().parent.parent / "everylist"

BUILTINS = set("""
    len range enumerate zip min max sum abs sorted reversed int str bool bytes list tuple dict set frozenset isinstance
    ord repr any all divmod iter next map super property staticmethod classmethod NotImplemented
    Exception ValueError TypeError KeyError IndexError LookupError ZeroDivisionError ArithmeticError OverflowError
    RuntimeError NotImplementedError StopIteration
""".split())

LIBRARY = {
    "heapq": {"heappush", "heappop", "heapify", "heapreplace", "heappushpop"},
    "math": {"gcd", "lcm", "isqrt", "comb", "perm", "factorial"},
    "itertools": {"product", "combinations", "permutations"},
}

SPECIAL = set("""
    __init__ __eq__ __repr__ __str__ __len__ __enter__ __exit__ __call__ __iter__ __lt__ __le__ __gt__ __ge__ __ne__
    __add__ __sub__ __mul__ __floordiv__ __mod__ __pow__ __and__ __or__ __xor__ __lshift__ __rshift__ __radd__ __rsub__
    __rmul__ __neg__ __pos__ __invert__ __abs__ __bool__ __contains__ __getitem__ __setitem__
""".split())

METHODS = set("""
    append clear copy count endswith extend find get index insert isalnum isalpha isdigit islower isspace isupper items
    join keys ljust lower lstrip partition pop remove replace reverse rfind rjust rpartition rsplit rstrip setdefault
    split splitlines startswith strip update upper values zfill bit_length title capitalize swapcase casefold center
    expandtabs removeprefix removesuffix rindex isascii isdecimal isnumeric istitle isidentifier isprintable translate
    add discard sort
""".split())

BARRED_NAMES = set("register mro elements open input law version_info with_traceback add_note".split())

BARRED_WORDS = re.compile(
    r"\b(type|typing|typing_extensions|enum|Enum|IntEnum|StrEnum|Flag|IntFlag|Generic|Protocol|ABC|ABCMeta|namedtuple"
    r"|NamedTuple|TypedDict|TYPE_CHECKING|abstractmethod)\b|dataclass|overload|contextmanager|_wall")

BARRED_NODES = (
    ast.Global, ast.AsyncFunctionDef, ast.AsyncFor, ast.AsyncWith, ast.Await, ast.AnnAssign, ast.Import, ast.MatchClass,
    ast.MatchMapping, ast.Div, ast.MatMult, ast.TryStar,
)


def files():
    return sorted(FOLDER.glob("*.py"))


def trees():
    return [(path.name, ast.parse(path.read_text(encoding="utf-8"))) for path in files()]


def nodes(*kinds):
    """All nodes of some kinds in the package, each with the file and line to tell."""
    found = []
    for name, tree in trees():
        found += [(node, f"{name}:{getattr(node, 'lineno', 0)}") for node in ast.walk(tree) if isinstance(node, kinds)]
    return found


def stars_in_indexes(tree):
    """The lines of all stars within the brackets of a subscript, however deep: in literals, calls and targets."""
    inner = [node for index in ast.walk(tree) if isinstance(index, ast.Subscript) for node in ast.walk(index.slice)]
    found = {node.lineno for node in inner if isinstance(node, ast.Starred)}
    found |= {node.lineno for node in inner if isinstance(node, ast.Dict) and None in node.keys}
    return sorted(found | {node.lineno for node in inner if isinstance(node, ast.keyword) and node.arg is None})


def given_names(tree):
    """The names of all parameters and variables of a file."""
    found = {node.arg for node in ast.walk(tree) if isinstance(node, ast.arg)}
    found |= {node.id for node in ast.walk(tree) if isinstance(node, ast.Name) and isinstance(node.ctx, ast.Store)}
    return found | {node.name for node in ast.walk(tree) if isinstance(node, ast.ExceptHandler) and node.name}


def all_names(tree):
    """The names of all things of a file: parameters, variables, functions, classes, attributes, imports."""
    found = {node.name for node in ast.walk(tree) if isinstance(node, (ast.FunctionDef, ast.ClassDef))}
    found |= {node.attr for node in ast.walk(tree) if isinstance(node, ast.Attribute)}
    found |= {node.asname or node.name for node in ast.walk(tree) if isinstance(node, ast.alias)}
    return found | given_names(tree)


def imports():
    """From each file the names that it imports, by the modules that it imports them from."""
    found = {}
    for name, tree in trees():
        found[name] = [(node.module, node.level, [alias.name for alias in node.names])
                       for node in ast.walk(tree) if isinstance(node, ast.ImportFrom)]
    return found


class FilesTest(unittest.TestCase):
    def test_the_folder_holds_only_files_of_the_package(self):
        names = [path.name for path in FOLDER.iterdir() if path.name != "__pycache__"]
        self.assertIn("__init__.py", names)
        for name in names:
            self.assertRegex(name, r"\A[a-z0-9_]+\.py\Z")

    def test_sizes_and_characters(self):
        for path in files():
            text = path.read_bytes().decode("ascii")
            self.assertRegex(text, r"\A[ -~\n]*\Z", path.name)
            self.assertLessEqual(len(text.splitlines()), 399, path.name)
            self.assertLessEqual(max([len(line) for line in text.splitlines()]), 120, path.name)

    def test_functions_are_small(self):
        for node, at in nodes(ast.FunctionDef):
            self.assertLessEqual(node.end_lineno - node.lineno + 1, 40, at)

    def test_barred_words(self):
        for path in files():
            code = re.sub(r'"""[\s\S]*?"""|#.*', "", path.read_text(encoding="utf-8"))
            self.assertIsNone(BARRED_WORDS.search(code), path.name)


class ImportsTest(unittest.TestCase):
    def test_what_is_imported(self):
        for file, modules in imports().items():
            for module, level, names in modules:
                self.assertEqual(level, 0, file)
                if module in LIBRARY:
                    self.assertLessEqual(set(names), LIBRARY[module], file)
                    continue
                self.assertRegex(module, r"\Aeverylist\.[a-z_]+\Z", file)
                tree = ast.parse((FOLDER / f"{module.partition('.')[2]}.py").read_text(encoding="utf-8"))
                defined = [node.name for node in tree.body if isinstance(node, (ast.FunctionDef, ast.ClassDef))]
                defined += [node.targets[0].id for node in tree.body if isinstance(node, ast.Assign)]
                self.assertLessEqual(set(names), set(defined), file)

    def test_imports_stand_at_the_top(self):
        for name, tree in trees():
            seen_other = False
            for node in tree.body[1:]:
                seen_other = seen_other or not isinstance(node, ast.ImportFrom)
                self.assertFalse(seen_other and isinstance(node, ast.ImportFrom), name)

    def test_no_files_import_each_other(self):
        left = {file: {f"{module[10:]}.py" for module, _, _ in modules if module not in LIBRARY}
                for file, modules in imports().items()}
        while left:
            free = [file for file, needed in left.items() if not needed & set(left)]
            self.assertNotEqual(free, [], left)
            left = {file: needed for file, needed in left.items() if file not in free}


class StatementsTest(unittest.TestCase):
    def test_module_level(self):
        for name, tree in trees():
            self.assertIsNotNone(ast.get_docstring(tree), name)
            for node in tree.body[1:]:
                self.assertIsInstance(node, (ast.ImportFrom, ast.FunctionDef, ast.ClassDef, ast.Assign), name)

    def test_barred_statements_and_signs(self):
        self.assertEqual([at for _, at in nodes(*BARRED_NODES)], [])

    def test_no_floats(self):
        for node, at in nodes(ast.Constant):
            self.assertNotIsInstance(node.value, (float, complex), at)

    def test_no_decorators_and_no_annotations(self):
        for node, at in nodes(ast.FunctionDef, ast.ClassDef):
            self.assertEqual(node.decorator_list, [], at)
        for node, at in nodes(ast.FunctionDef):
            self.assertIsNone(node.returns, at)
        for node, at in nodes(ast.arg):
            self.assertIsNone(node.annotation, at)

    def test_no_stars_in_calls_of_the_library(self):
        for node, at in nodes(ast.Call):
            if isinstance(node.func, ast.Name) and node.func.id in set.union(*LIBRARY.values()):
                self.assertEqual([one for one in node.args if isinstance(one, ast.Starred)] + node.keywords, [], at)

    def test_no_stars_in_indexes(self):
        for name, tree in trees():
            self.assertEqual(stars_in_indexes(tree), [], name)

    def test_stars_in_indexes_are_found_and_no_others(self):
        for code in ["xs[*a]", "xs[(*a, *b)]", "xs[(k, *a)]", "xs[0, *a]", "xs[[*a]]", "xs[f(*a)]", "xs[f(**d)]",
                     "xs[len({**d})]", "xs[(*a,):]", "xs[0][(*a,)]", "xs[ys[(*a,)]]", "xs[ys[*a]].many", "del xs[(*a,)]",
                     "xs[(*a,)] = 1", "xs[(*a,)] += 1", "[0, *[xs[(*a, *b)] for a in c]]", "{k: xs[(*k, 1)] for k in c}",
                     "lambda a: xs[(*a,)]", "xs[min([b for _, *b in c])]"]:
            self.assertEqual(stars_in_indexes(ast.parse(f"k = 0\n{code}")), [2], code)
        for code in ["(*a, *b)", "[*xs[k], *ys]", "[1, *[xs[k] for k in a]]", "xs[k * 2]", "xs[2 ** k]", "f(*xs[k])",
                     "f(**xs[k])", "{**xs[k]}", "xs[tuple(a + b)]", "a, *b = xs[k]", "k = (*a, 1)\nxs[k]", "xs[k] *= 2",
                     "xs[{1: 2}[k]]", "xs[f(a, by=b)]"]:
            self.assertEqual(stars_in_indexes(ast.parse(code)), [], code)

    def test_is_stands_beside_constants(self):
        for node, at in nodes(ast.Compare):
            for sign, right in zip(node.ops, node.comparators):
                if isinstance(sign, (ast.Is, ast.IsNot)):
                    self.assertTrue(isinstance(right, ast.Constant) and right.value in (None, True, False), at)

    def test_strings(self):
        for node, at in nodes(ast.Constant):
            if isinstance(node.value, str):
                self.assertNotIn("%", node.value, at)
                self.assertNotRegex(node.value, r"\._{1,2}\Z|\A__.*__\Z", at)

    def test_generator_expressions_stand_nowhere(self):
        self.assertEqual([at for _, at in nodes(ast.GeneratorExp)], [])

    def test_what_is_raised_is_created_on_the_spot(self):
        for node, at in nodes(ast.Raise):
            self.assertTrue(node.exc is None or isinstance(node.exc, ast.Call), at)

    def test_what_is_caught(self):
        for node, at in nodes(ast.ExceptHandler):
            self.assertIsNotNone(node.type, at)
            barred = {"Exception", "TypeError", "ArithmeticError", "OverflowError", "RuntimeError",
                      "NotImplementedError", "AttributeError"}
            self.assertFalse(barred & {one.id for one in ast.walk(node.type) if isinstance(one, ast.Name)}, at)


class NamesTest(unittest.TestCase):
    def test_names_are_plain(self):
        for file, tree in trees():
            for name in all_names(tree):
                self.assertRegex(name, r"\A(_|_?[A-Za-z][A-Za-z0-9_]*|__[a-z]+__)\Z", file)
                self.assertNotIn(name, BARRED_NAMES, file)
                if name.startswith("__"):
                    self.assertIn(name, SPECIAL, file)

    def test_no_builtin_is_called_otherwise(self):
        for name, tree in trees():
            all_nodes = list(ast.walk(tree))
            methods = [node for owner in all_nodes if isinstance(owner, ast.ClassDef)
                       for node in owner.body if isinstance(node, ast.FunctionDef)]
            given = {node.name for node in all_nodes
                     if isinstance(node, (ast.FunctionDef, ast.ClassDef)) and node not in methods}
            given |= given_names(tree)
            self.assertEqual(given & set(dir(builtins)), set(), name)
            self.assertEqual({node.name for node in methods} & BUILTINS, set(), name)

    def test_only_some_builtins_are_used(self):
        for node, at in nodes(ast.Name):
            if hasattr(builtins, node.id):
                self.assertIn(node.id, BUILTINS, at)

    def test_no_local_name_is_that_of_a_class_or_an_import(self):
        for name, tree in trees():
            taken = {alias.asname or alias.name for node in ast.walk(tree) if isinstance(node, ast.ImportFrom)
                     for alias in node.names}
            taken |= {node.name for node in ast.walk(tree) if isinstance(node, ast.ClassDef)}
            self.assertEqual(taken & given_names(tree), set(), name)

    def test_no_name_is_a_method_and_an_attribute(self):
        bodies = [node for owner, _ in nodes(ast.ClassDef) for node in owner.body]
        methods = {node.name for node in bodies if isinstance(node, ast.FunctionDef)}
        given = {node.attr for node, _ in nodes(ast.Attribute) if isinstance(node.ctx, ast.Store)}
        self.assertEqual(methods & given, set())
        for node, at in nodes(ast.Attribute):
            self.assertTrue(node.attr in METHODS | methods | given, at)

    def test_names_of_classes_begin_with_a_letter(self):
        for node, at in nodes(ast.ClassDef):
            self.assertRegex(node.name, r"\A[A-Za-z]", at)

    def test_methods_that_are_called(self):
        own = {node.name for node, _ in nodes(ast.FunctionDef)}
        for node, at in nodes(ast.Call):
            if isinstance(node.func, ast.Attribute):
                self.assertIn(node.func.attr, METHODS | own, at)


if __name__ == "__main__":
    unittest.main()
