"""What can be counted of the language rules, over each file of the package."""

import ast
import builtins
import re
import unittest
from pathlib import Path

PACKAGE = Path(__file__).resolve().parent.parent / "cornerlines"
FILES = sorted(PACKAGE.glob("*.py"))
BUILTINS = set(
    "len range enumerate zip min max sum abs sorted reversed int str bool bytes list tuple dict set frozenset "
    "isinstance ord repr any all divmod iter next super property staticmethod classmethod "
    "Exception ValueError TypeError KeyError IndexError LookupError ZeroDivisionError ArithmeticError "
    "OverflowError RuntimeError NotImplementedError AttributeError StopIteration NotImplemented".split()
)
METHODS = set(
    "append clear copy count endswith extend find get index insert isalnum isalpha isdigit islower isspace isupper "
    "items join keys ljust lower lstrip partition pop remove replace reverse rfind rjust rpartition rsplit rstrip "
    "setdefault split splitlines startswith strip update upper values zfill bit_length add discard sort".split()
)
BARRED_NAMES = set(
    "register mro elements open input law version_info with_traceback add_note attrgetter breakpoint builtins compile "
    "copyright credits delattr dir eval exec exit gc getattr globals hasattr help id importlib license locals "
    "methodcaller os quit setattr type vars sys".split()
)
BARRED_WORDS = (
    "type typing typing_extensions enum Enum IntEnum StrEnum Flag IntFlag Generic Protocol ABC ABCMeta namedtuple "
    "NamedTuple TypedDict TYPE_CHECKING abstractmethod".split()
)
DOUBLE = set("__init__ __eq__ __repr__ __str__ __len__".split())
NOT_ALLOWED = (
    ast.Global, ast.AsyncFunctionDef, ast.AsyncFor, ast.AsyncWith, ast.Await, ast.Div, ast.MatMult, ast.Import,
    ast.TryStar,
)


def at(path, number):
    """Where in the package this is."""
    return f"{path.name}, row {number}"


def tree_of(path):
    return ast.parse(path.read_text(encoding="utf-8"))


def bound_names(tree):
    """Each name that is bound anywhere, with its line."""
    for node in ast.walk(tree):
        if isinstance(node, (ast.FunctionDef, ast.ClassDef)):
            yield node.name, node.lineno
        if isinstance(node, ast.Name) and not isinstance(node.ctx, ast.Load):
            yield node.id, node.lineno
        if isinstance(node, ast.arg):
            yield node.arg, node.lineno
        if isinstance(node, ast.alias):
            yield node.asname or node.name, node.lineno
        if isinstance(node, ast.ExceptHandler) and node.name:
            yield node.name, node.lineno
        if isinstance(node, ast.Attribute) and not isinstance(node.ctx, ast.Load):
            yield node.attr, node.lineno
        if isinstance(node, ast.keyword) and node.arg:
            yield node.arg, node.value.lineno


def is_plain_value(node):
    """Whether a value at module level is plain."""
    if isinstance(node, ast.Constant):
        return not isinstance(node.value, (float, complex))
    if isinstance(node, ast.UnaryOp):
        return is_plain_value(node.operand)
    if isinstance(node, (ast.Tuple, ast.List)):
        return all(is_plain_value(part) for part in node.elts)
    if isinstance(node, ast.Dict):
        return all(is_plain_value(part) for part in node.keys + node.values)
    return isinstance(node, ast.Name)


class LanguageTest(unittest.TestCase):
    def each(self):
        self.assertGreaterEqual(len(FILES), 6)
        return [(path, tree_of(path)) for path in FILES]

    def test_files(self):
        names = [path.name for path in PACKAGE.iterdir() if path.name != "__pycache__"]
        self.assertIn("__init__.py", names)
        self.assertLessEqual(len(names), 100)
        for name in names:
            self.assertRegex(name, r"\A([a-z][a-z0-9_]*|__init__|__main__)\.py\Z")
            word = name[:-3]
            self.assertNotIn(word, dir(builtins))
            self.assertNotIn(word, BARRED_NAMES | set(BARRED_WORDS) | {"test", "tests", "testing", "site", "conftest"})
            self.assertFalse(word.startswith(("law_", "test_")), word)

    def test_sizes(self):
        for path, tree in self.each():
            rows = path.read_text(encoding="utf-8").split("\n")
            self.assertLessEqual(len(rows), 399)
            for number, row in enumerate(rows, 1):
                self.assertLessEqual(len(row), 120, at(path, number))
            for node in ast.walk(tree):
                if isinstance(node, ast.FunctionDef):
                    self.assertLessEqual(node.end_lineno - node.lineno + 1, 40, at(path, node.lineno))

    def test_signs(self):
        for path in FILES:
            for number, row in enumerate(path.read_text(encoding="utf-8").split("\n"), 1):
                self.assertRegex(row, r"\A[ -~]*\Z", at(path, number))

    def test_names(self):
        for path, tree in self.each():
            for name, number in bound_names(tree):
                if name not in DOUBLE:
                    self.assertRegex(name, r"\A[A-Za-z][A-Za-z0-9_]*\Z", at(path, number))
                self.assertNotIn(name, BARRED_NAMES, at(path, number))

    def test_words(self):
        for path in FILES:
            text = path.read_text(encoding="utf-8")
            for word in BARRED_WORDS:
                self.assertIsNone(re.search(rf"\b{word}\b", text), f"{path.name} {word}")
            for word in ("dataclass", "overload", "contextmanager"):
                self.assertNotIn(word, text, path.name)

    def test_no_name_of_a_builtin_is_taken(self):
        for path, tree in self.each():
            methods = set()
            for node in ast.walk(tree):
                if isinstance(node, ast.ClassDef):
                    methods |= {part.name for part in node.body if isinstance(part, ast.FunctionDef)}
            attributes = {node.attr for node in ast.walk(tree) if isinstance(node, ast.Attribute)}
            for name, number in bound_names(tree):
                if name not in methods | attributes:
                    self.assertNotIn(name, set(dir(builtins)) - {"key", "reverse"}, at(path, number))

    def test_no_local_name_of_an_import_or_a_class(self):
        for path, tree in self.each():
            taken = {alias.name for node in tree.body if isinstance(node, ast.ImportFrom) for alias in node.names}
            taken |= {node.name for node in tree.body if isinstance(node, ast.ClassDef)}
            for node in ast.walk(tree):
                if isinstance(node, ast.arg):
                    self.assertNotIn(node.arg, taken, at(path, node.lineno))
                if isinstance(node, ast.Name) and not isinstance(node.ctx, ast.Load):
                    self.assertNotIn(node.id, taken, at(path, node.lineno))

    def test_module_level(self):
        for path, tree in self.each():
            names = []
            for node in tree.body:
                docstring = isinstance(node, ast.Expr) and isinstance(node.value, ast.Constant)
                plain = isinstance(node, ast.Assign) and is_plain_value(node.value)
                known = isinstance(node, (ast.ImportFrom, ast.FunctionDef, ast.ClassDef))
                self.assertTrue(docstring or plain or known, at(path, node.lineno))
                if isinstance(node, ast.Assign):
                    self.assertEqual([part.__class__ for part in node.targets], [ast.Name], at(path, node.lineno))
                    names.append(node.targets[0].id)
                if isinstance(node, ast.ImportFrom):
                    names += [alias.asname or alias.name for alias in node.names]
                if isinstance(node, (ast.FunctionDef, ast.ClassDef)):
                    names.append(node.name)
            self.assertEqual(sorted(names), sorted(set(names)))

    def test_statements_and_signs(self):
        for path, tree in self.each():
            for node in ast.walk(tree):
                self.assertNotIsInstance(node, NOT_ALLOWED, at(path, getattr(node, "lineno", 0)))
                if isinstance(node, ast.Constant):
                    self.assertNotIsInstance(node.value, (float, complex, bytes), at(path, node.lineno))
                    if isinstance(node.value, str):
                        self.assertNotIn("%", node.value, at(path, node.lineno))
                if isinstance(node, ast.Compare):
                    for sign, side in zip(node.ops, node.comparators):
                        if isinstance(sign, (ast.Is, ast.IsNot)):
                            self.assertIsInstance(side, ast.Constant, at(path, node.lineno))
                if isinstance(node, ast.FunctionDef):
                    self.assertEqual(node.decorator_list, [], at(path, node.lineno))
                    self.assertEqual(node.args.posonlyargs, [], at(path, node.lineno))

    def test_sets(self):
        for path, tree in self.each():
            above = {part: node for node in ast.walk(tree) for part in ast.iter_child_nodes(node)}
            for node in ast.walk(tree):
                called = isinstance(node, ast.Call) and isinstance(node.func, ast.Name)
                if called and node.func.id == "set":
                    use = above[node]
                    told = isinstance(use, ast.Call) and getattr(use.func, "id", "") in ("len", "sorted")
                    kept = isinstance(use, ast.Assign)
                    self.assertTrue(told or kept or isinstance(use, ast.Compare), at(path, node.lineno))

    def test_builtins(self):
        for path, tree in self.each():
            for node in ast.walk(tree):
                if isinstance(node, ast.Name) and isinstance(node.ctx, ast.Load) and hasattr(builtins, node.id):
                    self.assertIn(node.id, BUILTINS, at(path, node.lineno))

    def test_methods(self):
        own = set()
        for path in FILES:
            for node in ast.walk(tree_of(path)):
                if isinstance(node, ast.ClassDef):
                    own |= {part.name for part in node.body if isinstance(part, ast.FunctionDef)}
        for path, tree in self.each():
            for node in ast.walk(tree):
                if isinstance(node, ast.Call) and isinstance(node.func, ast.Attribute):
                    self.assertIn(node.func.attr, METHODS | own, at(path, node.lineno))

    def test_stars_in_calls(self):
        for path, tree in self.each():
            for node in ast.walk(tree):
                if isinstance(node, ast.Call):
                    for part in node.args:
                        if isinstance(part, ast.Starred):
                            self.assertIsInstance(part.value, (ast.Name, ast.Attribute), at(path, node.lineno))

    def test_no_name_is_a_method_here_and_an_attribute_there(self):
        methods, attributes = set(), set()
        for path, tree in self.each():
            for node in ast.walk(tree):
                if isinstance(node, ast.ClassDef):
                    methods |= {part.name for part in node.body if isinstance(part, ast.FunctionDef)}
                if isinstance(node, ast.Attribute) and not isinstance(node.ctx, ast.Load):
                    attributes.add(node.attr)
        self.assertEqual(methods & attributes, set())

    def test_imports(self):
        defined, wanted = {}, {}
        for path, tree in self.each():
            module = f"cornerlines.{path.stem}"
            defined[module] = {getattr(node, "name", None) for node in tree.body}
            defined[module] |= {node.targets[0].id for node in tree.body if isinstance(node, ast.Assign)}
            wanted[module] = [node for node in ast.walk(tree) if isinstance(node, ast.ImportFrom)]
        for module, nodes in wanted.items():
            for node in nodes:
                self.assertEqual((node.level, node.col_offset), (0, 0), module)
                self.assertIn(node.module, defined, module)
                for alias in node.names:
                    self.assertIsNone(alias.asname, module)
                    self.assertIn(alias.name, defined[node.module], module)
        done = []
        while len(done) < len(wanted):
            ready = [m for m in wanted if m not in done and all(node.module in done for node in wanted[m])]
            self.assertNotEqual(ready, [], "files import from each other")
            done += ready

    def test_each_import_is_used(self):
        for path, tree in self.each():
            used = {node.id for node in ast.walk(tree) if isinstance(node, ast.Name)}
            for node in tree.body:
                if isinstance(node, ast.ImportFrom):
                    for alias in node.names:
                        self.assertIn(alias.name, used, at(path, node.lineno))


if __name__ == "__main__":
    unittest.main()
