"""The rules of LANGUAGE.md that can be read off the files of the package."""

import ast
import builtins
import pathlib
import re
import unittest

ROOT = pathlib.Path(__file__).resolve().parent.parent
FILES = sorted((ROOT / "firenegatives").rglob("*.py"))
TEXTS = {str(file.relative_to(ROOT)): file.read_text(encoding="utf-8") for file in FILES}
TREES = {name: ast.parse(text) for name, text in TEXTS.items()}

BUILTINS = set("""
    len range enumerate zip min max sum abs sorted reversed int str bool bytes list tuple dict set frozenset isinstance
    ord repr any all divmod iter next super property staticmethod classmethod Exception ValueError TypeError KeyError
    IndexError LookupError ZeroDivisionError ArithmeticError OverflowError RuntimeError NotImplementedError
    AttributeError StopIteration NotImplemented object float
""".split())
METHODS = set("""
    __init__ __eq__ __repr__ __str__ __len__ __enter__ __exit__ __call__ __iter__
""".split())
BARRED_WORDS = re.compile(
    r"\b(type|typing|typing_extensions|enum|Enum|IntEnum|StrEnum|Flag|IntFlag|Generic|Protocol|ABC|ABCMeta|namedtuple"
    r"|NamedTuple|TypedDict|TYPE_CHECKING|abstractmethod)\b|dataclass|overload|contextmanager")
BARRED_NAMES = set("""
    register mro elements open input law version_info with_traceback add_note attrgetter breakpoint builtins compile
    copyright credits delattr dir eval exec exit gc getattr globals hasattr help id importlib license locals
    methodcaller os quit setattr type vars sys
""".split())
BUILTIN_METHODS = set("""
    append clear copy count endswith extend find get index insert isalnum isalpha isdigit islower isspace isupper items
    join keys ljust lower lstrip partition pop remove replace reverse rfind rjust rpartition rsplit rstrip setdefault
    split splitlines startswith strip update upper values zfill bit_length title capitalize swapcase casefold center
    expandtabs removeprefix removesuffix rindex isascii isdecimal isnumeric istitle isidentifier isprintable translate
    add discard encode decode hex sort
""".split())
NOT_ALLOWED = (ast.Global, ast.AsyncFunctionDef, ast.Await, ast.AsyncFor, ast.AsyncWith, ast.Div, ast.MatMult)


def nodes_of(kind):
    """Return each part of that kind with the place where it stands."""
    found = []
    for name, tree in TREES.items():
        for node in ast.walk(tree):
            if isinstance(node, kind):
                found.append((f"{name}:{getattr(node, 'lineno', 0)}", node))
    return found


def bound_names(node):
    """Return the names to which a part gives a meaning."""
    if isinstance(node, ast.Name) and isinstance(node.ctx, ast.Store):
        return [node.id]
    if isinstance(node, (ast.FunctionDef, ast.ClassDef)):
        return [node.name]
    if isinstance(node, ast.arg):
        return [node.arg]
    if isinstance(node, ast.alias):
        return [node.asname or node.name]
    return []


def method_nodes():
    return {id(item) for place, node in nodes_of(ast.ClassDef) for item in node.body}


class TestLanguage(unittest.TestCase):
    def test_l1_files(self):
        for file in (ROOT / "firenegatives").rglob("*"):
            if file.name != "__pycache__" and file.parent.name != "__pycache__":
                self.assertTrue(file.is_dir() or re.fullmatch(r"[a-z0-9_]+\.py", file.name), file)
        self.assertLessEqual(len(FILES), 100)

    def test_l2_and_l16_imports(self):
        for place, node in nodes_of((ast.Import, ast.ImportFrom)):
            self.assertIsInstance(node, ast.ImportFrom, place)
            self.assertEqual(node.level, 0, place)
            self.assertTrue(node.module.startswith("firenegatives."), place)
            home = TREES[node.module.replace(".", "/") + ".py"]
            defined = [name for item in home.body if not isinstance(item, ast.ImportFrom)
                       for part in ([item] + getattr(item, "targets", [])) for name in bound_names(part)]
            for alias in node.names:
                self.assertIn(alias.name, defined, place)
                self.assertIsNone(alias.asname, place)

    def test_l16_no_circles(self):
        above = {name: {node.module.replace(".", "/") + ".py" for node in tree.body if isinstance(node, ast.ImportFrom)}
                 for name, tree in TREES.items()}
        while above:
            free = [name for name in above if not above[name] & set(above)]
            self.assertTrue(free, above)
            for name in free:
                del above[name]

    def test_l3_module_level(self):
        allowed = (ast.ImportFrom, ast.FunctionDef, ast.ClassDef, ast.Assign)
        for name, tree in TREES.items():
            self.assertIsNotNone(ast.get_docstring(tree), name)
            for item in tree.body[1:]:
                self.assertIsInstance(item, allowed, (name, item.lineno))

    def test_l4_functions(self):
        for place, node in nodes_of(ast.FunctionDef):
            self.assertEqual(node.args.posonlyargs, [], place)
            for decorator in node.decorator_list:
                self.assertIn(ast.unparse(decorator).split(".")[-1],
                              ("property", "setter", "staticmethod", "classmethod"), place)
            if node.name.startswith("__"):
                self.assertIn(node.name, METHODS, place)

    def test_l6_and_l7_nothing_barred(self):
        for place, node in nodes_of(NOT_ALLOWED):
            self.fail(place)
        for place, node in nodes_of(ast.Constant):
            self.assertNotIsInstance(node.value, (float, complex), place)

    def test_l7_lists_instead_of_generators(self):
        for place, node in nodes_of(ast.Call):
            if isinstance(node.func, ast.Name) and node.func.id in ("any", "all", "min", "max", "sum", "sorted"):
                self.assertFalse([part for part in node.args if isinstance(part, ast.GeneratorExp)], place)

    def test_l8_builtins(self):
        for place, node in nodes_of(ast.Name):
            if isinstance(node.ctx, ast.Load) and hasattr(builtins, node.id):
                self.assertIn(node.id, BUILTINS, place)

    def test_l10_sizes(self):
        for name, text in TEXTS.items():
            lines = text.split("\n")
            self.assertLessEqual(len(lines), 399, name)
            self.assertLessEqual(max(len(line) for line in lines), 120, name)
        for place, node in nodes_of(ast.FunctionDef):
            self.assertLessEqual(node.end_lineno - node.lineno + 1, 40, place)

    def test_l12_l15_and_l17_names(self):
        methods = method_nodes()
        for place, node in nodes_of(ast.AST):
            for name in bound_names(node):
                if name in METHODS:
                    continue
                self.assertRegex(name, r"\A[A-Za-z][A-Za-z0-9_]*\Z", place)
                self.assertNotIn(name, BARRED_NAMES, place)
                if id(node) not in methods:
                    self.assertFalse(hasattr(builtins, name), (place, name))

    def test_l14_characters(self):
        for name, text in TEXTS.items():
            self.assertRegex(text, r"\A[ -~\n]*\Z", name)

    def test_l15_one_binding_for_each_name(self):
        for name, tree in TREES.items():
            names = [bound for item in tree.body
                     for part in [item] + getattr(item, "targets", []) + getattr(item, "names", [])
                     for bound in bound_names(part)]
            self.assertEqual(len(names), len(set(names)), name)
            barred = {bound for item in tree.body if isinstance(item, (ast.ImportFrom, ast.ClassDef))
                      for part in [item] + getattr(item, "names", []) for bound in bound_names(part)}
            for function in [node for node in ast.walk(tree) if isinstance(node, ast.FunctionDef)]:
                inner = [bound for node in ast.walk(function) for bound in bound_names(node) if node is not function]
                self.assertFalse(barred & set(inner), (name, function.name))

    def test_l17_words(self):
        for name, text in TEXTS.items():
            self.assertIsNone(BARRED_WORDS.search(text), name)

    def test_l18_methods_and_attributes(self):
        methods = [node.name for place, node in nodes_of(ast.FunctionDef) if id(node) in method_nodes()]
        assigned = [node.attr for place, node in nodes_of(ast.Attribute) if isinstance(node.ctx, ast.Store)]
        self.assertFalse(set(methods) & set(assigned))
        for place, node in nodes_of(ast.Attribute):
            known = BUILTIN_METHODS | METHODS | set(methods) | set(assigned)
            self.assertIn(node.attr, known, place)

    def test_l20_is(self):
        for place, node in nodes_of(ast.Compare):
            for sign, right in zip(node.ops, node.comparators):
                if isinstance(sign, (ast.Is, ast.IsNot)):
                    self.assertIsInstance(right, ast.Constant, place)
                    self.assertIn(repr(right.value), ("None", "True", "False"), place)

    def test_l27_strings(self):
        for place, node in nodes_of(ast.Constant):
            if isinstance(node.value, str):
                self.assertNotIn("%", node.value, place)
        for name, text in TEXTS.items():
            self.assertIsNone(re.search(r"\\[^nt\\'\"]", text), name)


if __name__ == "__main__":
    unittest.main()
