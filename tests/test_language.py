"""Rules of ../shared/LANGUAGE.md that can be seen from the text of the package alone."""

import ast
import pathlib
import re
import unittest

FOLDER = pathlib.Path(__file__).resolve().parent.parent / "sumnets"
FILES = sorted(path for path in FOLDER.rglob("*") if "__pycache__" not in path.parts)

BUILTINS = set(
    "len range enumerate zip min max sum abs sorted reversed int str bool bytes list tuple dict set frozenset "
    "isinstance ord repr any all divmod Exception ValueError TypeError KeyError IndexError LookupError "
    "ZeroDivisionError ArithmeticError OverflowError RuntimeError NotImplementedError AttributeError StopIteration "
    "NotImplemented".split())
WORDS = re.compile(
    r"\b(type|typing|typing_extensions|enum|Enum|IntEnum|StrEnum|Flag|IntFlag|Generic|Protocol|ABC|ABCMeta|namedtuple|"
    r"NamedTuple|TypedDict|TYPE_CHECKING|abstractmethod)\b|dataclass|overload|contextmanager")
BARRED = set(
    "register mro elements open input version_info with_traceback add_note attrgetter breakpoint builtins compile "
    "copyright credits delattr dir eval exec exit gc getattr globals hasattr help id importlib license locals "
    "methodcaller os quit setattr super type vars sys".split())
METHODS = set("__init__ __eq__ __repr__ __str__ __len__".split())
AT_MODULE_LEVEL = (ast.ImportFrom, ast.FunctionDef, ast.ClassDef, ast.Assign, ast.Expr)
NOWHERE = (ast.Global, ast.AsyncFunctionDef, ast.Await, ast.Div, ast.Import)


def bound_names(tree):
    """All names that a file gives to something."""
    for node in ast.walk(tree):
        if isinstance(node, (ast.FunctionDef, ast.ClassDef)):
            yield node.name
        elif isinstance(node, ast.arg):
            yield node.arg
        elif isinstance(node, ast.Name) and isinstance(node.ctx, ast.Store):
            yield node.id
        elif isinstance(node, ast.Attribute) and isinstance(node.ctx, ast.Store):
            yield node.attr


def local_names(tree):
    """The names of parameters and of local variables."""
    for node in ast.walk(tree):
        if isinstance(node, ast.FunctionDef):
            for inner in ast.walk(node):
                if isinstance(inner, ast.arg):
                    yield inner.arg
                elif isinstance(inner, ast.Name) and isinstance(inner.ctx, ast.Store):
                    yield inner.id


class Language(unittest.TestCase):
    def trees(self):
        for path in FILES:
            with self.subTest(path.name):
                yield path, ast.parse(path.read_text())

    def test_files(self):
        self.assertIn(FOLDER / "__init__.py", FILES)
        for path in FILES:
            self.assertRegex(path.name, r"\A[a-z_][a-z0-9_]*\.py\Z")
            self.assertEqual(path.parent, FOLDER)

    def test_text(self):
        for path in FILES:
            text = path.read_text()
            self.assertRegex(text, r"\A[ -~\n]*\Z")
            self.assertIsNone(WORDS.search(text), path.name)
            self.assertLessEqual(len(text.splitlines()), 400)
            self.assertLessEqual(max(map(len, text.splitlines())), 120)

    def test_sizes_of_functions(self):
        for path, tree in self.trees():
            for node in ast.walk(tree):
                if isinstance(node, ast.FunctionDef):
                    self.assertLessEqual(node.end_lineno - node.lineno + 1, 40)

    def test_module_level(self):
        for path, tree in self.trees():
            names = []
            for node in tree.body:
                self.assertIsInstance(node, AT_MODULE_LEVEL)
                if isinstance(node, ast.Expr):
                    self.assertIsInstance(node.value, ast.Constant)
                elif isinstance(node, ast.ImportFrom):
                    self.assertTrue(node.level == 0 and node.module.startswith("sumnets."))
                    names += [alias.name for alias in node.names]
                elif isinstance(node, ast.Assign):
                    self.assertEqual([node.value for part in ast.walk(node.value) if isinstance(part, ast.Call)], [])
                    names += [target.id for target in node.targets]
                else:
                    names.append(node.name)
            self.assertEqual(len(names), len(set(names)))

    def test_imports_name_the_defining_file_and_go_one_way(self):
        imports = {}
        defined = {path.stem: {node.name for node in tree.body if hasattr(node, "name")} | {
            target.id for node in tree.body if isinstance(node, ast.Assign) for target in node.targets}
            for path, tree in self.trees()}
        for path, tree in self.trees():
            imports[path.stem] = set()
            for node in tree.body:
                if isinstance(node, ast.ImportFrom):
                    stem = node.module.removeprefix("sumnets.")
                    imports[path.stem].add(stem)
                    for alias in node.names:
                        self.assertIn(alias.name, defined[stem])
                        self.assertIsNone(alias.asname)
        while imports:
            free = [stem for stem in imports if not imports[stem] & set(imports)]
            self.assertTrue(free, "files import from each other")
            for stem in free:
                del imports[stem]

    def test_names(self):
        for path, tree in self.trees():
            for name in bound_names(tree):
                if name not in METHODS:
                    self.assertRegex(name, r"\A[A-Za-z][A-Za-z0-9_]*\Z")
                self.assertNotIn(name, BARRED)
                self.assertNotIn(name, BUILTINS)

    def test_local_names_hide_nothing(self):
        builtin_names = set(dir(__import__("builtins")))
        for path, tree in self.trees():
            taken = {alias.name for node in tree.body if isinstance(node, ast.ImportFrom) for alias in node.names}
            taken |= {node.name for node in tree.body if isinstance(node, ast.ClassDef)}
            for name in local_names(tree):
                self.assertNotIn(name, taken | builtin_names)

    def test_builtins(self):
        builtin_names = set(dir(__import__("builtins")))
        for path, tree in self.trees():
            for node in ast.walk(tree):
                if isinstance(node, ast.Name) and node.id in builtin_names:
                    self.assertIn(node.id, BUILTINS)

    def test_statements_and_values(self):
        for path, tree in self.trees():
            for node in ast.walk(tree):
                self.assertNotIsInstance(node, NOWHERE)
                if isinstance(node, ast.Constant):
                    self.assertNotIsInstance(node.value, (float, complex))
                    if isinstance(node.value, str):
                        self.assertNotIn("%", node.value)
                if isinstance(node, ast.Compare):
                    for sign, side in zip(node.ops, node.comparators):
                        if isinstance(sign, (ast.Is, ast.IsNot)):
                            self.assertIn(getattr(side, "value", 0), (None, True, False))
                if isinstance(node, ast.BinOp) and isinstance(node.op, ast.Pow):
                    self.assertIn(getattr(node.right, "value", None), range(65))

    def test_no_name_is_a_method_here_and_an_attribute_there(self):
        methods, attributes = set(), set()
        for path, tree in self.trees():
            for node in ast.walk(tree):
                if isinstance(node, ast.ClassDef):
                    methods |= {part.name for part in node.body if isinstance(part, ast.FunctionDef)}
                elif isinstance(node, ast.Attribute) and isinstance(node.ctx, ast.Store):
                    attributes.add(node.attr)
        self.assertEqual(methods & attributes, set())
        self.assertEqual(attributes & set(dir(str) + dir(list) + dir(dict) + dir(tuple) + dir(int)), set())

    def test_unused_imports(self):
        for path, tree in self.trees():
            used = {node.id for node in ast.walk(tree) if isinstance(node, ast.Name)}
            for node in tree.body:
                if isinstance(node, ast.ImportFrom):
                    self.assertLessEqual({alias.name for alias in node.names}, used)


if __name__ == "__main__":
    unittest.main()
