"""That the package keeps to its small part of Python, as far as a look at the code can tell."""

import ast
import builtins
import re
import unittest
from pathlib import Path

PACKAGE = Path(__file__).resolve().parent.parent / "fractionforms"
BUILTINS = set("""len range enumerate zip min max sum abs sorted reversed int str bool list tuple dict set frozenset
    isinstance ord repr any all divmod Exception ValueError TypeError KeyError IndexError LookupError ZeroDivisionError
    ArithmeticError OverflowError RuntimeError NotImplementedError AttributeError StopIteration""".split())
METHODS = set("""append clear copy count endswith extend find get index insert isalnum isalpha isdigit islower isspace
    isupper items join keys ljust lower lstrip partition pop remove replace reverse rfind rjust rpartition rsplit rstrip
    setdefault split splitlines startswith strip update upper values zfill bit_length""".split())
OUT_OF_USE = set("""register mro elements open input version_info with_traceback add_note attrgetter breakpoint builtins
    compile copyright credits delattr dir eval exec exit gc getattr globals hasattr help id importlib license locals
    methodcaller os quit setattr super type vars sys chr print""".split())
WORDS = re.compile(r"\b(type|typing|typing_extensions|enum|Enum|IntEnum|StrEnum|Flag|IntFlag|Generic|Protocol|ABC|ABCMeta"
                   r"|namedtuple|NamedTuple|TypedDict|TYPE_CHECKING|abstractmethod)\b|dataclass|overload|contextmanager")
STATEMENTS = (ast.FunctionDef, ast.ClassDef, ast.Assign, ast.AugAssign, ast.If, ast.While, ast.For, ast.Return, ast.Break,
              ast.Continue, ast.Pass, ast.Raise, ast.Try, ast.Expr, ast.ImportFrom)
EXPRESSIONS = (ast.BoolOp, ast.BinOp, ast.UnaryOp, ast.IfExp, ast.Compare, ast.Call, ast.Constant, ast.Attribute,
               ast.Subscript, ast.Name, ast.List, ast.Tuple, ast.Dict, ast.ListComp, ast.Slice, ast.JoinedStr,
               ast.FormattedValue, ast.Lambda)
TREES = {path: ast.parse(path.read_text(encoding="utf-8")) for path in sorted(PACKAGE.glob("*.py"))}


def nodes(kinds):
    return [(path.name, node) for path, tree in TREES.items() for node in ast.walk(tree) if isinstance(node, kinds)]


def is_docstring(node):
    return isinstance(node, ast.Expr) and isinstance(node.value, ast.Constant) and isinstance(node.value.value, str)


def is_plain(node, functions):
    if isinstance(node, ast.UnaryOp):
        return isinstance(node.operand, ast.Constant)
    if isinstance(node, (ast.Tuple, ast.List)):
        return all(is_plain(part, functions) for part in node.elts)
    if isinstance(node, ast.Dict):
        return all(is_plain(part, functions) for part in node.keys + node.values)
    return isinstance(node, ast.Constant) or isinstance(node, ast.Name) and node.id in functions


def locals_of(function):
    names = [argument.arg for argument in function.args.args]
    return names + [node.id for node in ast.walk(function) if isinstance(node, ast.Name) and isinstance(node.ctx, ast.Store)]


class Files(unittest.TestCase):
    def test_names_and_signs(self):
        for path in PACKAGE.iterdir():
            if path.name != "__pycache__":
                self.assertRegex(path.name, r"^(__init__|[a-z][a-z0-9_]*)\.py$")
                self.assertNotIn(path.stem, dir(builtins))
                text = path.read_text(encoding="utf-8")
                self.assertRegex(text, r"\A[ -~\n]*\Z")
                self.assertIsNone(WORDS.search(text), path.name)

    def test_sizes(self):
        for path in TREES:
            rows = path.read_text().splitlines()
            self.assertLessEqual(len(rows), 400)
            self.assertLessEqual(max(map(len, rows)), 120)
        for name, node in nodes(ast.FunctionDef):
            self.assertLessEqual(node.end_lineno - node.lineno + 1, 40, (name, node.name))

    def test_tops(self):
        for path, tree in TREES.items():
            functions = []
            bound = []
            for node in tree.body:
                if isinstance(node, ast.Assign):
                    self.assertTrue(is_plain(node.value, functions), (path.name, node.lineno))
                    bound.append(node.targets[0].id)
                elif isinstance(node, ast.FunctionDef):
                    functions.append(node.name)
                elif not isinstance(node, (ast.ClassDef, ast.ImportFrom)):
                    self.assertTrue(is_docstring(node), (path.name, node.lineno))
            names = bound + functions + [node.name for node in tree.body if isinstance(node, ast.ClassDef)]
            names += [alias.name for node in tree.body if isinstance(node, ast.ImportFrom) for alias in node.names]
            self.assertEqual(len(names), len(set(names)), path.name)

    def test_imports(self):
        drawn = {path.stem: set() for path in TREES}
        for path, tree in TREES.items():
            for node in tree.body:
                if isinstance(node, ast.ImportFrom):
                    package, _, module = node.module.partition(".")
                    self.assertEqual((package, node.level), ("fractionforms", 0))
                    drawn[path.stem].add(module)
                    defined = {other.name for other in TREES[PACKAGE / f"{module}.py"].body if hasattr(other, "name")}
                    for alias in node.names:
                        self.assertIn(alias.name, defined)
                        self.assertIsNone(alias.asname)
        while drawn:
            free = [module for module, needs in drawn.items() if not needs & set(drawn)]
            self.assertTrue(free, drawn)
            drawn = {module: needs for module, needs in drawn.items() if module not in free}


class Code(unittest.TestCase):
    def test_statements(self):
        for name, node in nodes(ast.stmt):
            self.assertIsInstance(node, STATEMENTS, (name, node.lineno))
            if isinstance(node, ast.Expr):
                self.assertTrue(is_docstring(node) or isinstance(node.value, ast.Call), (name, node.lineno))
            if isinstance(node, ast.Assign):
                self.assertEqual(len(node.targets), 1)
                self.assertNotIsInstance(node.targets[0], (ast.Tuple, ast.List))
            if isinstance(node, (ast.For, ast.While)):
                self.assertEqual(node.orelse, [])
            if isinstance(node, ast.Try):
                self.assertEqual(node.finalbody, [])

    def test_expressions(self):
        for name, node in nodes(ast.expr):
            self.assertIsInstance(node, EXPRESSIONS, (name, node.lineno))
            if isinstance(node, ast.BinOp):
                self.assertNotIsInstance(node.op, (ast.Div, ast.Pow), (name, node.lineno))
            if isinstance(node, ast.Constant):
                self.assertIn(type(node.value), (int, str, bool, type(None)), (name, node.lineno))
            if isinstance(node, ast.Compare):
                for operator, side in zip(node.ops, node.comparators):
                    if isinstance(operator, (ast.Is, ast.IsNot)):
                        self.assertIsInstance(side, ast.Constant)

    def test_functions(self):
        for name, node in nodes(ast.FunctionDef):
            plain = node.args
            self.assertEqual(node.decorator_list, [])
            self.assertFalse(plain.vararg or plain.kwarg or plain.kwonlyargs or plain.posonlyargs or node.returns)
            self.assertTrue(all(argument.annotation is None for argument in plain.args))
        for name, node in nodes(ast.ClassDef):
            self.assertLessEqual(len(node.bases), 1)
            self.assertTrue(all(isinstance(part, ast.FunctionDef) or is_docstring(part) for part in node.body))

    def test_names(self):
        for path, tree in TREES.items():
            taken = {alias.name for node in tree.body if isinstance(node, ast.ImportFrom) for alias in node.names}
            taken |= {node.name for node in tree.body if isinstance(node, ast.ClassDef)} | set(dir(builtins))
            tops = {node.name for node in tree.body if hasattr(node, "name")} | taken
            tops |= {node.targets[0].id for node in tree.body if isinstance(node, ast.Assign)}
            for node in ast.walk(tree):
                if isinstance(node, ast.FunctionDef):
                    own = locals_of(node)
                    self.assertFalse(set(own) & taken, (path.name, node.name))
                    self.assertTrue(all(re.fullmatch(r"[A-Za-z][A-Za-z0-9_]*", local) for local in own))
                if isinstance(node, ast.Name):
                    self.assertNotIn(node.id, OUT_OF_USE)
                    if isinstance(node.ctx, ast.Load) and node.id in dir(builtins):
                        self.assertIn(node.id, BUILTINS, (path.name, node.lineno))
            self.assertFalse((tops - taken) & set(dir(builtins)), path.name)

    def test_methods(self):
        own = {part.name for _, node in nodes(ast.ClassDef) for part in node.body if isinstance(part, ast.FunctionDef)}
        values = {node.attr for _, node in nodes(ast.Attribute) if isinstance(node.ctx, ast.Store)}
        self.assertFalse(own & values)
        pythons = set(dir(str) + dir(int) + dir(list) + dir(dict) + dir(set) + dir(bytes)) - {"__init__"}
        self.assertFalse((own | values) & pythons)
        for name, node in nodes(ast.Attribute):
            self.assertIn(node.attr, METHODS | own | values, (name, node.lineno))
            self.assertNotIn(node.attr, OUT_OF_USE)

    def test_texts(self):
        for name, node in nodes(ast.Constant):
            if isinstance(node.value, str):
                self.assertNotIn("%", node.value, (name, node.lineno))


if __name__ == "__main__":
    unittest.main()
