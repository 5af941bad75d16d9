"""The form of the package: its interface, and what rules of its language can be seen in its text."""

import ast
import builtins
import pathlib
import re
import unittest

PACKAGE = pathlib.Path(__file__).resolve().parent.parent / "turnways"

CLASSES = {
    "shops": {
        "Shop": {
            "__init__": "self, works, *, cells=None, locks=(), belts=None, longest=24, most=400",
            "names": "self",
            "beside": "self, other, *, longest=24, most=400",
        },
    },
    "hands": {
        "Hand": {
            "look": "self, cell",
            "put": "self, cell, value",
            "swap": "self, cell, value",
            "trade": "self, cell, old, value",
            "until": "self, cell, value",
            "take": "self, lock",
            "give": "self, lock",
            "reach": "self, lock",
            "lay": "self, belt, value",
            "fetch": "self, belt",
            "rest": "self",
            "say": "self, value",
            "fail": "self, value",
        },
    },
    "runs": {
        "Run": {
            "__init__": "self, shop",
            "wish": "self, k",
            "can": "self",
            "go": "self, k",
            "turns": "self",
            "steps": "self",
            "ends": "self",
            "cell": "self, name",
            "holder": "self, name",
            "belt": "self, name",
            "said": "self, k",
            "outcome": "self",
            "is_over": "self",
            "stands": "self",
            "twin": "self",
        },
    },
    "webs": {
        "Web": {
            "of": "shop, turns",
            "turns": "self",
            "has": "self, turns",
            "orders": "self",
            "steps": "self",
            "before": "self, one, other",
            "links": "self",
            "layers": "self",
            "moments": "self",
            "outcome_at": "self, moment",
            "serial": "self",
            "ring": "self",
            "unbroken": "self, k, first, last",
            "__eq__": "self, other",
        },
    },
}
FUNCTIONS = {
    "runs": {"replay": "shop, turns"},
    "asks": {
        "ways": "shop",
        "webs": "shop",
        "orders": "shop",
        "beginnings": "shop",
        "outcomes": "shop",
        "every": "shop, test",
        "some": "shop, test",
        "first": "shop, test",
        "sometimes": "shop, test",
        "unavoidable": "shop, test",
        "fewest_changes": "shop, test",
    },
    "stills": {"standstills": "shop", "ring_of": "run", "clashes": "shop", "not_serial": "shop"},
    "repairs": {
        "are_all": "shop, rows",
        "deciding": "shop, test",
        "kept": "shop, stretches",
        "least_stretches": "shop, stretches, test",
    },
}

BUILTINS = set(
    "len range enumerate zip min max sum abs sorted reversed int str bool bytes list tuple dict set isinstance ord repr "
    "any all divmod Exception ValueError TypeError KeyError IndexError LookupError ZeroDivisionError iter next "
    "property staticmethod classmethod super".split()
)
BARRED_NAMES = set("register mro elements open input law version_info with_traceback add_note".split())
BARRED_WORDS = set(
    "type typing typing_extensions enum Enum IntEnum StrEnum Flag IntFlag Generic Protocol ABC ABCMeta namedtuple "
    "NamedTuple TypedDict TYPE_CHECKING abstractmethod".split()
)
DUNDERS = set("__init__ __eq__ __repr__ __str__ __len__ __call__ __iter__ __lt__".split())


def files():
    return sorted(PACKAGE.glob("*.py"))


def trees():
    return [(path.name, ast.parse(path.read_text(encoding="utf-8"))) for path in files()]


def walk(kind):
    return [(name, node) for name, tree in trees() for node in ast.walk(tree) if isinstance(node, kind)]


def bound_names(tree):
    """All names that a file binds or uses as names, attributes or parameters."""
    names = []
    for node in ast.walk(tree):
        if isinstance(node, ast.Name):
            names.append(node.id)
        elif isinstance(node, ast.Attribute):
            names.append(node.attr)
        elif isinstance(node, (ast.FunctionDef, ast.ClassDef)):
            names.append(node.name)
        elif isinstance(node, ast.arg):
            names.append(node.arg)
        elif isinstance(node, ast.keyword) and node.arg is not None:
            names.append(node.arg)
    return names


class Interface(unittest.TestCase):
    def body(self, module):
        return {node.name: node for node in ast.parse((PACKAGE / f"{module}.py").read_text()).body
                if isinstance(node, (ast.FunctionDef, ast.ClassDef))}

    def test_methods_stand_in_the_bodies_of_their_classes(self):
        for module, classes in CLASSES.items():
            for name, methods in classes.items():
                found = {node.name: ast.unparse(node.args) for node in self.body(module)[name].body
                         if isinstance(node, ast.FunctionDef)}
                for method, parameters in methods.items():
                    self.assertEqual(found.get(method), parameters, f"{name}.{method}")

    def test_functions_stand_in_their_files(self):
        for module, functions in FUNCTIONS.items():
            for name, parameters in functions.items():
                self.assertEqual(ast.unparse(self.body(module)[name].args), parameters)


class Texts(unittest.TestCase):
    def test_the_folder_holds_plain_python_files_only(self):
        for path in PACKAGE.iterdir():
            if path.name != "__pycache__":
                self.assertRegex(path.name, r"^[a-z_][a-z0-9_]*\.py$")

    def test_sizes_and_characters(self):
        for path in files():
            text = path.read_text(encoding="utf-8")
            self.assertRegex(text, r"\A[ -~\n]*\Z", path.name)
            lines = text.split("\n")
            self.assertLessEqual(len(lines), 399, path.name)
            self.assertLessEqual(max(map(len, lines)), 120, path.name)

    def test_barred_words(self):
        for path in files():
            text = path.read_text(encoding="utf-8")
            self.assertFalse(BARRED_WORDS & set(re.findall(r"\w+", text)), path.name)
            self.assertFalse(re.search("dataclass|overload|contextmanager", text), path.name)

    def test_functions_are_short(self):
        for name, node in walk(ast.FunctionDef):
            self.assertLessEqual(node.end_lineno - node.lineno + 1, 40, f"{name}: {node.name}")


class Rules(unittest.TestCase):
    def test_statements(self):
        barred = (ast.Global, ast.Import, ast.AsyncFunctionDef, ast.Await, ast.AsyncFor, ast.AsyncWith, ast.Div)
        self.assertEqual(walk(barred), [])

    def test_imports(self):
        for name, node in walk(ast.ImportFrom):
            self.assertRegex(node.module, r"^turnways\.[a-z]+$", name)
            self.assertEqual(node.level, 0)
            tops = {top.name for top in ast.parse((PACKAGE / (node.module[9:] + ".py")).read_text()).body
                    if isinstance(top, (ast.FunctionDef, ast.ClassDef))}
            for alias in node.names:
                self.assertIn(alias.name, tops, name)

    def test_no_two_files_import_from_each_other(self):
        imports = {}
        for name, node in walk(ast.ImportFrom):
            imports.setdefault(name, set()).add(node.module[9:] + ".py")

        def reached(name, way):
            self.assertNotIn(name, way)
            for other in imports.get(name, ()):
                reached(other, [*way, name])

        for name in imports:
            reached(name, [])

    def test_names(self):
        for name, tree in trees():
            for word in bound_names(tree):
                self.assertNotIn(word, BARRED_NAMES, name)
                if word.startswith("_"):
                    self.assertIn(word, DUNDERS, name)

    def test_builtins(self):
        for name, node in walk(ast.Name):
            if hasattr(builtins, node.id):
                self.assertIn(node.id, BUILTINS, name)
                self.assertIsInstance(node.ctx, ast.Load)
        for name, node in walk((ast.arg,)):
            self.assertFalse(hasattr(builtins, node.arg), f"{name}: {node.arg}")

    def test_is_stands_only_with_none_true_and_false(self):
        for name, node in walk(ast.Compare):
            for sign, right in zip(node.ops, node.comparators):
                if isinstance(sign, (ast.Is, ast.IsNot)):
                    self.assertIsInstance(right, ast.Constant, name)

    def test_no_name_is_a_method_and_an_attribute(self):
        methods = {node.name for _, cls in walk(ast.ClassDef) for node in cls.body if isinstance(node, ast.FunctionDef)}
        attributes = {node.attr for _, node in walk(ast.Attribute) if isinstance(node.ctx, ast.Store)}
        self.assertEqual(methods & attributes, set())

    def test_no_variable_has_the_name_of_a_class_or_an_import_of_its_file(self):
        for name, tree in trees():
            taken = {node.name for node in tree.body if isinstance(node, ast.ClassDef)}
            taken |= {alias.name for node in tree.body if isinstance(node, ast.ImportFrom) for alias in node.names}
            for node in ast.walk(tree):
                if isinstance(node, ast.arg):
                    self.assertNotIn(node.arg, taken, name)
                if isinstance(node, ast.Name) and isinstance(node.ctx, ast.Store):
                    self.assertNotIn(node.id, taken, name)

    def test_static_methods_have_names_of_their_own(self):
        plain = [node.name for _, cls in walk(ast.ClassDef) for node in cls.body
                 if isinstance(node, ast.FunctionDef) and not node.decorator_list]
        attributes = [node.attr for _, node in walk(ast.Attribute) if isinstance(node.ctx, ast.Store)]
        for name, node in walk(ast.FunctionDef):
            self.assertIn([ast.unparse(kind) for kind in node.decorator_list], ([], ["staticmethod"]), name)
            if node.decorator_list:
                self.assertNotIn(node.name, plain + attributes)

    def test_no_generators_where_a_class_compares(self):
        self.assertEqual(walk((ast.GeneratorExp, ast.Yield, ast.YieldFrom)), [])
        for name, node in walk(ast.Attribute):
            self.assertNotEqual(node.attr, "sort", name)

    def test_sets_are_not_iterated(self):
        for name, node in walk((ast.For, ast.comprehension)):
            self.assertNotIsInstance(node.iter, (ast.Set, ast.SetComp), name)

    def test_errors_are_caught_by_the_names_of_the_package(self):
        for name, node in walk(ast.ExceptHandler):
            self.assertEqual(ast.unparse(node.type), "Held", name)


if __name__ == "__main__":
    unittest.main()
