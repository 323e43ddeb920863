"""The rules of LANGUAGE.md that can be seen in the files of the package one by one."""

import ast
import builtins
import pathlib
import re
import unittest

PACKAGE = pathlib.Path(__file__).parent.parent / "howmanyeach"
LIBRARY = {
    "heapq": ["heappush", "heappop", "heapify", "heapreplace", "heappushpop"],
    "math": ["gcd", "lcm", "isqrt", "comb", "perm", "factorial"],
    "itertools": ["product", "combinations", "permutations", "chain", "accumulate", "pairwise", "islice",
                  "zip_longest"],
    "collections": ["defaultdict", "deque"],
}
# Words that stand nowhere but in comments and docstrings.
BARRED = ["typing", "typing_extensions", "enum", "Enum", "IntEnum", "StrEnum", "Flag", "IntFlag", "Generic", "Protocol",
          "ABC", "ABCMeta", "namedtuple", "NamedTuple", "TypedDict", "TYPE_CHECKING", "abstractmethod", "register",
          "mro", "elements", "open", "input", "law", "eval", "exec", "globals", "locals", "vars", "compile"]
BUILTINS = ["len", "range", "enumerate", "zip", "min", "max", "sum", "abs", "sorted", "reversed", "int", "str", "bool",
            "list", "tuple", "dict", "set", "isinstance", "ord", "repr", "any", "all", "divmod", "iter", "next", "map"]
METHODS = ["append", "clear", "copy", "count", "endswith", "extend", "find", "get", "index", "insert", "isalnum",
           "isalpha", "isdigit", "islower", "isspace", "isupper", "items", "join", "keys", "ljust", "lower", "lstrip",
           "partition", "pop", "remove", "replace", "reverse", "rfind", "rjust", "rpartition", "rsplit", "rstrip",
           "setdefault", "split", "splitlines", "startswith", "strip", "update", "upper", "values", "zfill",
           "bit_length"]
# Local variables that are assigned a function from a table at module level.
FROM_TABLES = ["check", "certify", "judge", "change", "ask"]
BARRED_NODES = (ast.AsyncFunctionDef, ast.AsyncFor, ast.AsyncWith, ast.Await, ast.Div, ast.Import)


def sources():
    return {path.name: path.read_text() for path in sorted(PACKAGE.glob("**/*.py"))}


def nodes(text):
    return list(ast.walk(ast.parse(text)))


def docstrings(text):
    owners = [node for node in nodes(text) if isinstance(node, (ast.Module, ast.ClassDef, ast.FunctionDef))]
    return [ast.get_docstring(owner, clean=False) for owner in owners]


def strings(text):
    """All strings but the docstrings."""
    constants = [node.value for node in nodes(text) if isinstance(node, ast.Constant)]
    kept = docstrings(text)
    return [worth for worth in constants if isinstance(worth, str) and worth not in kept]


def names(text):
    """All names of variables, parameters, functions, classes, imports, attributes and keywords."""
    found = []
    for node in nodes(text):
        for field in ("id", "arg", "attr", "name"):
            found.append(getattr(node, field, None))
    return [name for name in found if isinstance(name, str)]


class Files(unittest.TestCase):
    def test_the_folder_contains_nothing_else(self):
        for path in PACKAGE.glob("**/*"):
            if "__pycache__" not in path.parts:
                self.assertEqual(path.suffix, ".py", path)

    def test_size_and_characters(self):
        for name, text in sources().items():
            self.assertLessEqual(len(text.splitlines()), 399, name)
            for number, line in enumerate(text.splitlines(), 1):
                self.assertLessEqual(len(line), 120, (name, number))
                self.assertTrue(all(" " <= sign <= "~" for sign in line), (name, number))

    def test_functions_are_small(self):
        for name, text in sources().items():
            for node in nodes(text):
                if isinstance(node, ast.FunctionDef):
                    self.assertLessEqual(node.end_lineno - node.lineno + 1, 40, (name, node.name))


class Code(unittest.TestCase):
    def test_imports(self):
        texts = sources()
        for name, text in texts.items():
            for node in nodes(text):
                if not isinstance(node, ast.ImportFrom):
                    continue
                self.assertEqual(node.level, 0, name)
                for imported in node.names:
                    self.assertIsNone(imported.asname, name)
                    self.assertTrue(self.is_found(texts, node.module, imported.name), (name, imported.name))

    def is_found(self, texts, module, name):
        if module in LIBRARY:
            return name in LIBRARY[module]
        package, _, file = module.partition(".")
        defined = []
        for node in ast.parse(texts[file + ".py"]).body:
            defined.append(node.targets[0].id if isinstance(node, ast.Assign) else getattr(node, "name", None))
        return package == PACKAGE.name and name in defined

    def test_what_no_file_contains(self):
        for name, text in sources().items():
            for node in nodes(text):
                self.assertNotIsInstance(node, BARRED_NODES, name)
                if isinstance(node, ast.Constant):
                    self.assertNotIsInstance(node.value, (float, complex), name)
            for string in strings(text):
                self.assertNotIn("%", string, name)

    def test_barred_words(self):
        for name, text in sources().items():
            words = names(text)
            for string in strings(text):
                words.extend(re.findall(r"\w+", string))
            self.assertEqual(sorted(set(words) & set(BARRED)), [], name)
            for part in ("dataclass", "overload", "contextmanager"):
                self.assertNotIn(part, text, name)

    def test_calls_by_name(self):
        own = set()
        for text in sources().values():
            own.update(node.name for node in nodes(text) if isinstance(node, (ast.FunctionDef, ast.ClassDef)))
        for name, text in sources().items():
            for node in nodes(text):
                if isinstance(node, ast.Call) and isinstance(node.func, ast.Name):
                    here = [*BUILTINS, *own, *sum(LIBRARY.values(), []), "TypeError", "deed", "cls", "table",
                            *FROM_TABLES]
                    self.assertIn(node.func.id, here, name)
                if isinstance(node, ast.Call) and isinstance(node.func, ast.Attribute):
                    self.assertIn(node.func.attr, [*METHODS, *own, "add"], name)

    def test_local_names(self):
        for name, text in sources().items():
            # Doctest leaves a _ there.
            taken = [word for word in dir(builtins) if word != "_"]
            for node in nodes(text):
                if isinstance(node, ast.ClassDef):
                    taken.append(node.name)
                if isinstance(node, ast.ImportFrom):
                    taken.extend(imported.name for imported in node.names)
            for node in nodes(text):
                if isinstance(node, ast.arg):
                    self.assertNotIn(node.arg, taken, (name, node.lineno))
                if isinstance(node, ast.Name) and isinstance(node.ctx, ast.Store):
                    self.assertNotIn(node.id, taken, (name, node.lineno))

    def test_each_import_is_used(self):
        for name, text in sources().items():
            used = [node.id for node in nodes(text) if isinstance(node, ast.Name)]
            for node in nodes(text):
                if isinstance(node, ast.ImportFrom):
                    self.assertEqual([told.name for told in node.names if told.name not in used], [], name)

    def test_any_and_all_take_lists(self):
        for name, text in sources().items():
            for node in nodes(text):
                if isinstance(node, ast.GeneratorExp):
                    self.fail(f"a generator expression in {name}, line {node.lineno}")

    def test_operators_count_up_nothing(self):
        # Classes of the package have in-place operators: += stands nowhere but at numbers.
        for name, text in sources().items():
            for node in nodes(text):
                if isinstance(node, ast.AugAssign):
                    self.assertIsInstance(node.value, ast.Constant, (name, node.lineno))

    def test_double_underscores(self):
        for name, text in sources().items():
            for node in nodes(text):
                if isinstance(node, (ast.Name, ast.Attribute)):
                    word = node.id if isinstance(node, ast.Name) else node.attr
                    self.assertFalse(word.startswith("__"), (name, node.lineno))
                if isinstance(node, ast.ClassDef):
                    methods = [part.name for part in node.body if isinstance(part, ast.FunctionDef)]
                    if "__getitem__" in methods:
                        self.assertIn("__iter__", methods, name)

    def test_no_words_that_getitem_bars(self):
        for name, text in sources().items():
            for word in ("(type)", "Meta", "metaclass="):
                self.assertNotIn(word, text, name)
            for node in nodes(text):
                if isinstance(node, ast.FunctionDef):
                    self.assertNotEqual(node.name, "keys", name)

    def test_no_name_is_a_method_and_an_attribute(self):
        methods, attributes, properties, read = set(), set(), set(), set()
        for text in sources().values():
            for node in nodes(text):
                if isinstance(node, ast.ClassDef):
                    for part in [part for part in node.body if isinstance(part, ast.FunctionDef)]:
                        of = [ast.unparse(decorator) for decorator in part.decorator_list]
                        (properties if "property" in of or f"{part.name}.setter" in of else methods).add(part.name)
                    attributes.update(target.id for part in node.body if isinstance(part, ast.Assign)
                                      for target in part.targets)
                if isinstance(node, ast.Attribute):
                    (attributes if isinstance(node.ctx, ast.Store) else read).add(node.attr)
        # A property with a setter is assigned, but nowhere in the package itself.
        self.assertEqual([methods & attributes, methods & properties, properties & attributes], [set()] * 3)
        self.assertEqual(read - methods - attributes - properties - set(METHODS), {"setter"})

    def test_tables_of_functions(self):
        """A function from a table at module level has a name of its own ahead of its call."""
        for name, text in sources().items():
            for node in nodes(text):
                if isinstance(node, ast.Call):
                    self.assertNotIsInstance(node.func, (ast.Subscript, ast.Call, ast.IfExp), name)

    def test_lists_are_sorted_without_their_own_method(self):
        # A class of the package has an order: LANGUAGE.md bars .sort() beside one.
        for name, text in sources().items():
            self.assertNotIn(".sort(", text, name)


if __name__ == "__main__":
    unittest.main()
