"""The rules of the language that a program can see, on the package's own files."""

import ast
import builtins
import pathlib
import re
import unittest

PACKAGE = pathlib.Path(__file__).resolve().parent.parent / "fundswings"
FILES = sorted(PACKAGE.rglob("*.py"))

OWN_NAMES = set("""len range enumerate zip min max sum abs sorted reversed int str bool list tuple dict set frozenset
isinstance ord repr any all divmod Exception ValueError TypeError KeyError IndexError LookupError ZeroDivisionError
ArithmeticError OverflowError RuntimeError NotImplementedError StopIteration""".split())
METHODS = set("""append clear copy count endswith extend find get index insert isalnum isalpha isdigit islower isspace
isupper items join keys ljust lower lstrip partition pop remove replace reverse rfind rjust rpartition rsplit rstrip
setdefault split splitlines startswith strip update upper values zfill bit_length""".split())
WORDS = re.compile(r"\b(type|typing|typing_extensions|enum|Enum|IntEnum|StrEnum|Flag|IntFlag|Generic|Protocol|ABC"
                   r"|ABCMeta|namedtuple|NamedTuple|TypedDict|TYPE_CHECKING|abstractmethod)\b"
                   r"|dataclass|overload|contextmanager")
BARRED = (ast.With, ast.Match, ast.Delete, ast.Global, ast.Nonlocal, ast.Assert, ast.Yield, ast.YieldFrom,
          ast.AsyncFunctionDef, ast.Await, ast.Div, ast.NamedExpr, ast.Starred, ast.SetComp, ast.DictComp,
          ast.GeneratorExp, ast.Import, ast.AnnAssign, ast.Set)
PLAIN_NAME = re.compile(r"[A-Za-z][A-Za-z0-9_]*\Z")


def plain_value(node, defs):
    if isinstance(node, ast.UnaryOp):
        return isinstance(node.op, ast.USub) and plain_value(node.operand, defs)
    if isinstance(node, (ast.List, ast.Tuple)):
        return all(plain_value(each, defs) for each in node.elts)
    if isinstance(node, ast.Dict):
        return all(plain_value(each, defs) for each in node.keys + node.values)
    if isinstance(node, ast.Name):
        return node.id in defs
    return isinstance(node, ast.Constant) and (node.value is None or isinstance(node.value, (int, str)))


class LanguageTest(unittest.TestCase):
    def trees(self):
        for path in FILES:
            yield path.name, ast.parse(path.read_text(encoding="ascii"))

    def nodes(self, *kinds):
        for name, tree in self.trees():
            for node in ast.walk(tree):
                if isinstance(node, kinds):
                    yield f"{name}:{getattr(node, 'lineno', 0)}", node

    def test_files(self):
        inside = [path for path in PACKAGE.rglob("*") if "__pycache__" not in path.parts]
        self.assertEqual(sorted(inside), FILES)
        for path in FILES:
            self.assertRegex(path.name, r"\A([a-z][a-z0-9_]*|__init__)\.py\Z")

    def test_size_signs_and_words(self):
        for path in FILES:
            text = path.read_text(encoding="ascii")
            self.assertRegex(text, r"\A[ -~\n]*\Z", path)
            lines = text.split("\n")
            self.assertLessEqual(len(lines), 400, path)
            for line in lines:
                self.assertLessEqual(len(line), 120, line)
                self.assertIsNone(WORDS.search(line), line)
        for where, node in self.nodes(ast.FunctionDef):
            self.assertLessEqual(node.end_lineno - node.lineno + 1, 40, where)

    def test_top_of_modules(self):
        for name, tree in self.trees():
            defs = set()
            bound = []
            for node in tree.body:
                if isinstance(node, (ast.FunctionDef, ast.ClassDef)):
                    bound.append(node.name)
                    defs.add(node.name)
                elif isinstance(node, ast.ImportFrom):
                    bound.extend(alias.name for alias in node.names)
                elif isinstance(node, ast.Assign):
                    bound.append(node.targets[0].id)
                    self.assertTrue(plain_value(node.value, defs), f"{name}:{node.lineno}")
                else:
                    self.assertIsInstance(node, ast.Expr, f"{name}:{node.lineno}")
                    self.assertIsInstance(node.value, ast.Constant, f"{name}:{node.lineno}")
            self.assertEqual(len(bound), len(set(bound)), name)

    def test_imports_come_from_the_file_that_defines(self):
        for where, node in self.nodes(ast.ImportFrom):
            self.assertRegex(node.module, r"\Afundswings\.[a-z_]+\Z", where)
            tree = ast.parse((PACKAGE / (node.module.split(".")[1] + ".py")).read_text())
            defined = [each.name for each in tree.body if isinstance(each, (ast.FunctionDef, ast.ClassDef))]
            defined += [each.targets[0].id for each in tree.body if isinstance(each, ast.Assign)]
            for alias in node.names:
                self.assertIn(alias.name, defined, where)

    def test_barred_forms(self):
        for where, node in self.nodes(*BARRED):
            self.fail(f"{where} {type(node).__name__}")
        for where, node in self.nodes(ast.Assign):
            self.assertEqual(len(node.targets), 1, where)
            self.assertNotIsInstance(node.targets[0], (ast.Tuple, ast.List), where)
        for where, node in self.nodes(ast.For, ast.While):
            self.assertEqual(node.orelse, [], where)
        for where, node in self.nodes(ast.FunctionDef, ast.ClassDef):
            self.assertEqual(node.decorator_list, [], where)
        for where, node in self.nodes(ast.Constant):
            self.assertNotIsInstance(node.value, (float, bytes, complex), where)
            if isinstance(node.value, str):
                self.assertNotIn("%", node.value, where)

    def test_names(self):
        for where, node in self.nodes(ast.Name, ast.arg, ast.Attribute, ast.FunctionDef, ast.ClassDef):
            name = getattr(node, "id", None) or getattr(node, "arg", None) or getattr(node, "attr", None) or node.name
            if name != "__init__":
                self.assertRegex(name, PLAIN_NAME, where)
            if isinstance(node, ast.arg) or isinstance(getattr(node, "ctx", None), ast.Store):
                self.assertNotIn(name, dir(builtins), where)

    def test_own_names_of_python(self):
        for where, node in self.nodes(ast.Name):
            if node.id in dir(builtins):
                self.assertIn(node.id, OWN_NAMES, where)

    def test_locals_are_not_called_like_classes_or_imports(self):
        for name, tree in self.trees():
            taken = {each.name for each in tree.body if isinstance(each, ast.ClassDef)}
            taken |= {alias.name for each in tree.body if isinstance(each, ast.ImportFrom) for alias in each.names}
            for node in ast.walk(tree):
                if isinstance(node, ast.arg):
                    self.assertNotIn(node.arg, taken, name)
                if isinstance(node, ast.Name) and isinstance(node.ctx, ast.Store):
                    self.assertNotIn(node.id, taken, name)

    def test_methods_and_values_of_objects(self):
        methods = set()
        for where, node in self.nodes(ast.ClassDef):
            methods |= {each.name for each in node.body if isinstance(each, ast.FunctionDef)}
        stored = {node.attr for where, node in self.nodes(ast.Attribute) if isinstance(node.ctx, ast.Store)}
        self.assertEqual(methods & stored, set())
        for where, node in self.nodes(ast.Call):
            if isinstance(node.func, ast.Attribute):
                self.assertIn(node.func.attr, METHODS | methods, where)
        taken = {name for value in ("", 0, [], {}, b"", set()) for name in dir(value)}
        self.assertEqual(stored & taken, set())


if __name__ == "__main__":
    unittest.main()
