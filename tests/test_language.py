"""Those rules of LANGUAGE.md that can be seen in the package's files, for the constructs it uses."""

import ast
import builtins
import pathlib
import re
import unittest

PACKAGE = pathlib.Path(__file__).resolve().parent.parent / "crossbends"
BUILTINS = set("""len range enumerate zip min max sum abs sorted reversed int str bool bytes list tuple dict set
    isinstance ord repr any all divmod Exception ValueError TypeError KeyError IndexError LookupError
    ZeroDivisionError ArithmeticError OverflowError RuntimeError NotImplementedError""".split())
METHODS = set("""append clear copy count endswith extend find get index insert isalnum isalpha isdigit islower isspace
    isupper items join keys ljust lower lstrip partition pop remove replace reverse rfind rjust rpartition rsplit
    rstrip setdefault split splitlines startswith strip update upper values zfill bit_length sort add
    discard""".split())
BARRED_WORDS = """type typing typing_extensions enum Enum IntEnum StrEnum Flag IntFlag Generic Protocol ABC ABCMeta
    namedtuple NamedTuple TypedDict TYPE_CHECKING abstractmethod""".split()
BARRED_NAMES = """register mro elements open input version_info with_traceback add_note attrgetter breakpoint
    builtins compile copyright credits delattr dir eval exec exit gc getattr globals hasattr help id importlib license
    locals methodcaller os quit setattr super vars sys format format_map""".split()
NO_NODES = (ast.Global, ast.AsyncFunctionDef, ast.AsyncFor, ast.AsyncWith, ast.Await, ast.Div, ast.MatMult, ast.Import)
FUNCTIONS = (ast.FunctionDef, ast.Lambda)
PLAIN_NODES = (ast.Constant, ast.List, ast.Tuple, ast.Dict, ast.UnaryOp, ast.USub, ast.Load)


def files():
    return sorted(PACKAGE.rglob("*.py"))


def nodes(kind):
    """All nodes of a kind, each with its file and line."""
    for file in files():
        for node in ast.walk(ast.parse(file.read_text())):
            if isinstance(node, kind):
                yield node, f"{file.name}:{getattr(node, 'lineno', '')}"


def bound_names(tree):
    """All names that are bound anywhere beneath a node."""
    found = set()
    for node in ast.walk(tree):
        if isinstance(node, ast.Name) and not isinstance(node.ctx, ast.Load):
            found.add(node.id)
        elif isinstance(node, ast.arg):
            found.add(node.arg)
        elif isinstance(node, (ast.FunctionDef, ast.ClassDef)):
            found.add(node.name)
        elif isinstance(node, ast.alias):
            found.add(node.asname or node.name)
        elif isinstance(node, (ast.ExceptHandler, ast.MatchAs, ast.MatchStar)) and node.name:
            found.add(node.name)
    return found


def own_methods():
    """The names of all methods that the package's classes define."""
    inner = [node for owner, where in nodes(ast.ClassDef) for node in owner.body]
    return {node.name for node in inner if isinstance(node, ast.FunctionDef)}


def own_attributes():
    """The names of all attributes that the package assigns."""
    return {node.attr for node, where in nodes(ast.Attribute) if isinstance(node.ctx, ast.Store)}


class Files(unittest.TestCase):

    def test_only_files_of_plain_names(self):
        self.assertTrue(files())
        for path in PACKAGE.iterdir():
            if path.name != "__pycache__":
                self.assertRegex(path.name, r"\A([a-z][a-z0-9_]*|__init__|__main__)\.py\Z")
                self.assertNotIn(path.stem, dir(builtins))

    def test_characters_and_sizes(self):
        for file in files():
            lines = file.read_text().split("\n")
            self.assertLessEqual(len(lines), 400, file.name)
            for number, line in enumerate(lines, 1):
                where = f"{file.name}:{number}"
                self.assertLessEqual(len(line), 120, where)
                self.assertRegex(line, r"\A[ -~]*\Z", where)
                for word in BARRED_WORDS:
                    self.assertIsNone(re.search(rf"\b{word}\b", line), where)
                self.assertIsNone(re.search("dataclass|overload|contextmanager", line), where)

    def test_functions_of_forty_lines(self):
        for node, where in nodes(ast.FunctionDef):
            self.assertLess(node.end_lineno - node.lineno, 40, where)
            self.assertEqual([], node.args.posonlyargs, where)


class Statements(unittest.TestCase):

    def test_none_of_these(self):
        for node, where in nodes(NO_NODES):
            self.fail(where)

    def test_module_level(self):
        for file in files():
            above = set()
            for number, node in enumerate(ast.parse(file.read_text()).body):
                where = f"{file.name}:{node.lineno}"
                if isinstance(node, ast.FunctionDef):
                    above.add(node.name)
                if isinstance(node, ast.Assign):
                    for entry in ast.walk(node.value):
                        known = entry.id in above if isinstance(entry, ast.Name) else isinstance(entry, PLAIN_NODES)
                        self.assertTrue(known, where)
                    self.check_flat(node.value, where)
                elif isinstance(node, ast.Expr):
                    self.assertEqual(0, number, where)
                    self.assertIsInstance(node.value.value, str, where)
                else:
                    self.assertIsInstance(node, (ast.ImportFrom, ast.FunctionDef, ast.ClassDef), where)

    def check_flat(self, value, where):
        """A list or dict at module level contains no list or dict."""
        for entry in ast.walk(value):
            self.assertFalse(entry is not value and isinstance(entry, (ast.List, ast.Dict)), where)

    def test_tables_are_only_read(self):
        for file in files():
            tree = ast.parse(file.read_text())
            tables = [node.targets[0].id for node in tree.body
                      if isinstance(node, ast.Assign) and isinstance(node.value, (ast.List, ast.Dict))]
            for node in ast.walk(tree):
                if isinstance(node, ast.Call):
                    handed = node.args + [getattr(node.func, "value", None)]
                    names = [entry.id for entry in handed if isinstance(entry, ast.Name)]
                    self.assertFalse(set(names) & set(tables), f"{file.name}:{node.lineno}")
                    self.assertNotIsInstance(node.func, ast.Subscript, f"{file.name}:{node.lineno}")
                if isinstance(node, ast.Subscript) and not isinstance(node.ctx, ast.Load):
                    self.assertNotIn(getattr(node.value, "id", ""), tables, f"{file.name}:{node.lineno}")

    def test_cases(self):
        plain = (ast.MatchValue, ast.MatchSingleton, ast.MatchSequence, ast.MatchStar, ast.MatchAs, ast.MatchOr)
        for function, where in nodes(ast.FunctionDef):
            for node in ast.walk(function):
                if isinstance(node, ast.Match):
                    captured = set()
                    for place, case in enumerate(node.cases):
                        whole = isinstance(case.pattern, ast.MatchAs) and case.pattern.pattern is None
                        self.assertEqual(place == len(node.cases) - 1, whole, where)
                        inner = [entry for entry in ast.walk(case.pattern) if isinstance(entry, ast.pattern)]
                        self.assertTrue(all(isinstance(entry, plain) for entry in inner), where)
                        names = [entry.name for entry in inner if getattr(entry, "name", None)]
                        self.assertEqual(len(names), len(set(names)), where)
                        loaded = {entry.id for entry in ast.walk(case) if isinstance(entry, ast.Name)}
                        for name in captured - set(names):
                            self.assertNotIn(name, loaded, where)
                        captured |= set(names)
                    self.assertFalse(captured & self.bound_by_others(function), where)

    def bound_by_others(self, function):
        """All names of a function that are bound by anything but patterns."""
        found = {entry.arg for entry in ast.walk(function.args) if isinstance(entry, ast.arg)}
        return found | {entry.id for entry in ast.walk(function)
                        if isinstance(entry, ast.Name) and isinstance(entry.ctx, ast.Store)}

    def test_imports_from_the_very_file_and_never_around(self):
        above = {}
        for file in files():
            above[file.stem] = set()
            for node in ast.walk(ast.parse(file.read_text())):
                if isinstance(node, ast.ImportFrom):
                    self.assertEqual(0, node.level, file.name)
                    package, stem = node.module.split(".")
                    self.assertEqual("crossbends", package)
                    above[file.stem].add(stem)
                    body = ast.parse((PACKAGE / f"{stem}.py").read_text()).body
                    defined = [entry for entry in body if not isinstance(entry, ast.ImportFrom)]
                    names = bound_names(ast.Module(body=defined, type_ignores=[]))
                    self.assertLessEqual({alias.name for alias in node.names}, names, file.name)
        while above:
            free = [stem for stem in above if not above[stem] & set(above)]
            self.assertTrue(free, above)
            for stem in free:
                del above[stem]

    def test_iterated_at_once(self):
        for node, where in nodes((ast.Assign, ast.AugAssign, ast.Return)):
            if isinstance(node.value, ast.Call):
                called = node.value.func
                name = called.attr if isinstance(called, ast.Attribute) else called.id
                self.assertNotIn(name, ("zip", "enumerate", "reversed", "range", "items", "keys", "values"), where)
            self.assertNotIsInstance(node.value, ast.GeneratorExp, where)

    def test_errors_are_created_where_raised(self):
        for node, where in nodes(ast.Raise):
            if node.exc is not None:
                self.assertIsInstance(node.exc, ast.Call, where)
                self.assertIsInstance(node.exc.func, ast.Name, where)

    def test_numbers_texts_and_signs(self):
        for node, where in nodes(ast.Constant):
            self.assertNotIsInstance(node.value, (float, complex), where)
            if isinstance(node.value, str):
                self.assertNotIn("%", node.value, where)
        for node, where in nodes(ast.Compare):
            for sign, right in zip(node.ops, node.comparators):
                if isinstance(sign, (ast.Is, ast.IsNot)):
                    self.assertIn(getattr(right, "value", 0), (None, True, False), where)
        for node, where in nodes(ast.BinOp):
            if isinstance(node.op, ast.Pow):
                self.assertIsInstance(node.right, ast.Constant, where)


class Names(unittest.TestCase):

    def test_known_or_own(self):
        for file in files():
            tree = ast.parse(file.read_text())
            own = bound_names(tree)
            for name in own:
                self.assertNotIn(name, BARRED_NAMES, file.name)
                if name != "__init__":
                    self.assertRegex(name, r"\A[A-Za-z][A-Za-z0-9_]*\Z", file.name)
                    self.assertNotIn(name, dir(builtins), file.name)
            for node in ast.walk(tree):
                if isinstance(node, ast.Name) and isinstance(node.ctx, ast.Load) and node.id not in own:
                    self.assertIn(node.id, BUILTINS, f"{file.name}:{node.lineno}")

    def test_bound_once_at_module_level_and_not_hidden(self):
        for file in files():
            body = ast.parse(file.read_text()).body
            heads = []
            for node in body:
                if isinstance(node, (ast.FunctionDef, ast.ClassDef)):
                    heads.append(node.name)
                else:
                    heads += bound_names(node)
            self.assertEqual(len(heads), len(set(heads)), file.name)
            for node in ast.walk(ast.parse(file.read_text())):
                if isinstance(node, ast.FunctionDef):
                    inner = set().union(*(bound_names(entry) for entry in [node.args] + node.body))
                    self.assertFalse(inner & set(heads), f"{file.name}:{node.lineno}")

    def test_methods(self):
        for node, where in nodes(ast.Call):
            if isinstance(node.func, ast.Attribute):
                self.assertIn(node.func.attr, METHODS | own_methods(), where)

    def test_own_methods_and_attributes(self):
        of_builtins = set().union(*(dir(kind) for kind in (int, str, bytes, list, tuple, dict, set)))
        self.assertFalse((own_methods() | own_attributes()) & (of_builtins - {"__init__"}))
        self.assertFalse(own_methods() & own_attributes())
        for node, where in nodes(ast.Attribute):
            if node.attr not in METHODS:
                self.assertIn(node.attr, own_methods() | own_attributes(), where)


if __name__ == "__main__":
    unittest.main()
