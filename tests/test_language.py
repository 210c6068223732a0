"""The package keeps to its small part of Python, as far as that can be seen in the text of its files."""

import ast
import builtins
import pathlib
import re
import unittest

PACKAGE = pathlib.Path(__file__).resolve().parent.parent / "countedlogic"
BUILT_IN = set("""len range enumerate zip min max sum abs sorted reversed int str bool list tuple dict set frozenset
    isinstance ord repr any all divmod Exception ValueError TypeError KeyError IndexError LookupError ZeroDivisionError
    ArithmeticError OverflowError RuntimeError NotImplementedError AttributeError StopIteration""".split())
METHODS = set("""append clear copy count endswith extend find get index insert isalnum isalpha isdigit islower isspace
    isupper items join keys ljust lower lstrip partition pop remove replace reverse rfind rjust rpartition rsplit rstrip
    setdefault split splitlines startswith strip update upper values zfill bit_length""".split())
NODES = tuple(getattr(ast, name) for name in """Module Import ImportFrom FunctionDef ClassDef Assign AugAssign If While For
    Return Break Continue Pass Raise Try ExceptHandler Expr Constant Name Attribute Subscript Slice List Tuple Dict Call
    BinOp UnaryOp BoolOp Compare IfExp ListComp comprehension Lambda JoinedStr FormattedValue arguments arg alias keyword
    operator unaryop boolop cmpop expr_context""".split())
WORDS = re.compile(r"\b(type|typing|typing_extensions|enum|Enum|IntEnum|StrEnum|Flag|IntFlag|Generic|Protocol|ABC|ABCMeta"
                   r"|namedtuple|NamedTuple|TypedDict|TYPE_CHECKING|abstractmethod)\b|dataclass|overload|contextmanager")
NOT_USED = set("""register mro elements open input version_info with_traceback add_note id dir eval exec exit help locals
    globals vars super type compile getattr setattr hasattr delattr os sys gc license quit""".split())
OF_PYTHONS_VALUES = set().union(*[dir(kind) for kind in (str, int, list, tuple, dict, set, frozenset, bytes)])


def files():
    return sorted(PACKAGE.glob("*.py"))


def trees():
    return [(path, ast.parse(path.read_text("utf-8"))) for path in files()]


def nodes(kind):
    return [(path, node) for path, tree in trees() for node in ast.walk(tree) if isinstance(node, kind)]


class Language(unittest.TestCase):
    def test_files(self):
        found = [path.name for path in PACKAGE.iterdir() if path.name != "__pycache__"]
        self.assertEqual(sorted(found), [path.name for path in files()])
        self.assertIn("__init__.py", found)
        for name in found:
            self.assertRegex(name, r"\A[a-z0-9_]+\.py\Z")
            self.assertNotIn(name[:-3], dir(builtins))
            self.assertFalse(name.startswith("test"))

    def test_signs_and_lengths(self):
        for path in files():
            text = path.read_text("utf-8")
            self.assertRegex(text, r"\A[ -~\n]*\Z", path)
            self.assertIsNone(WORDS.search(text), path)
            rows = text.split("\n")
            self.assertLessEqual(len(rows), 400, path)
            self.assertLessEqual(max(len(row) for row in rows), 120, path)

    def test_length_of_functions(self):
        for path, node in nodes(ast.FunctionDef):
            self.assertLessEqual(node.end_lineno - node.lineno + 1, 40, (path, node.name))

    def test_statements_and_expressions(self):
        for path, node in nodes(ast.AST):
            self.assertIsInstance(node, NODES, (path, getattr(node, "lineno", 0)))
            self.assertEqual(getattr(node, "decorator_list", []), [], path)
            if isinstance(node, (ast.For, ast.While)):
                self.assertEqual(node.orelse, [], (path, node.lineno))
            if isinstance(node, ast.Assign):
                self.assertEqual([isinstance(target, ast.Tuple) for target in node.targets], [False], (path, node.lineno))
            if isinstance(node, ast.Constant):
                self.assertIn(type(node.value), (int, str, bool, type(None)), (path, node.lineno))
            if isinstance(node, ast.operator):
                self.assertNotIsInstance(node, (ast.Div, ast.MatMult), path)
            if isinstance(node, ast.ListComp):
                self.assertEqual(len(node.generators), 1, (path, node.lineno))
                self.assertLessEqual(len(node.generators[0].ifs), 1, (path, node.lineno))

    def test_is_beside_none_alone(self):
        for path, node in nodes(ast.Compare):
            for operator, value in zip(node.ops, node.comparators):
                if isinstance(operator, (ast.Is, ast.IsNot)):
                    self.assertIsInstance(value, ast.Constant, (path, node.lineno))

    def test_imports(self):
        drawn = {}
        for path, tree in trees():
            drawn[path.stem] = []
            for node in ast.walk(tree):
                self.assertNotIsInstance(node, ast.Import, path)
                if isinstance(node, ast.ImportFrom):
                    self.assertIn(node, tree.body, path)
                    self.assertEqual(node.level, 0, path)
                    self.assertRegex(node.module, r"\Acountedlogic\.[a-z]+\Z")
                    drawn[path.stem].append(node.module.partition(".")[2])
                    self.assertNotIn("*", [alias.name for alias in node.names])
        while drawn:
            free = [name for name in drawn if not set(drawn[name]) & set(drawn)]
            self.assertNotEqual(free, [], "files that draw from one another")
            for name in free:
                del drawn[name]

    def test_imports_are_used_and_come_from_their_own_file(self):
        tops = {path.stem: {node.name for node in tree.body if isinstance(node, (ast.FunctionDef, ast.ClassDef))}
                | {target.id for node in tree.body if isinstance(node, ast.Assign) for target in node.targets}
                for path, tree in trees()}
        for path, tree in trees():
            used = {node.id for node in ast.walk(tree) if isinstance(node, ast.Name)}
            for node in tree.body:
                if isinstance(node, ast.ImportFrom):
                    for alias in node.names:
                        self.assertIn(alias.name, used, path)
                        self.assertIn(alias.name, tops[node.module.partition(".")[2]], path)

    def test_top_of_modules(self):
        for path, tree in trees():
            self.assertIsNotNone(ast.get_docstring(tree), path)
            bound = []
            for node in tree.body[1:]:
                self.assertIsInstance(node, (ast.ImportFrom, ast.FunctionDef, ast.ClassDef, ast.Assign), path)
                if isinstance(node, ast.ImportFrom):
                    bound += [alias.asname or alias.name for alias in node.names]
                elif isinstance(node, ast.Assign):
                    bound.append(node.targets[0].id)
                    kinds = (ast.Constant, ast.Tuple, ast.Dict, ast.List, ast.UnaryOp, ast.USub, ast.Name, ast.Load)
                    for inner in ast.walk(node.value):
                        self.assertIsInstance(inner, kinds, (path, node.lineno))
                else:
                    bound.append(node.name)
            self.assertEqual(len(bound), len(set(bound)), path)

    def test_names(self):
        for path, tree in trees():
            imported = [alias.name for node in tree.body if isinstance(node, ast.ImportFrom) for alias in node.names]
            classes = [node.name for node in tree.body if isinstance(node, ast.ClassDef)]
            for node in ast.walk(tree):
                name = ""
                if isinstance(node, ast.arg):
                    name = node.arg
                elif isinstance(node, ast.Name) and isinstance(node.ctx, ast.Store):
                    name = node.id
                elif isinstance(node, (ast.FunctionDef, ast.ClassDef)):
                    name = node.name
                self.assertNotIn(name, dir(builtins), path)
                self.assertNotIn(name, imported, path)
                if not isinstance(node, ast.ClassDef):
                    self.assertNotIn(name, classes, path)
                self.assertTrue(not name.startswith("_") or name == "__init__", (path, name))
                self.assertNotIn(name, NOT_USED, path)

    def test_pythons_own_names(self):
        for path, node in nodes(ast.Name):
            if node.id in dir(builtins):
                self.assertIn(node.id, BUILT_IN, (path, node.lineno))
            self.assertNotIn(node.id, NOT_USED, (path, node.lineno))

    def test_attributes(self):
        own = {node.name for path, node in nodes(ast.FunctionDef)}
        own |= {node.attr for path, node in nodes(ast.Attribute) if isinstance(node.ctx, ast.Store)}
        for path, node in nodes(ast.Attribute):
            self.assertNotIn(node.attr, NOT_USED, (path, node.lineno))
            if isinstance(node.ctx, ast.Store):
                self.assertNotIn(node.attr, OF_PYTHONS_VALUES, (path, node.lineno))
            elif node.attr not in own:
                self.assertIn(node.attr, METHODS, (path, node.lineno))
        for path, node in nodes(ast.ClassDef):
            for method in node.body[1:]:
                self.assertIsInstance(method, ast.FunctionDef, path)
                self.assertTrue(method.name == "__init__" or method.name not in OF_PYTHONS_VALUES, (path, method.name))


if __name__ == "__main__":
    unittest.main()
