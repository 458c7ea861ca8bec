"""The package keeps to its part of Python, as far as that can be seen from its files."""

import ast
import builtins
import os
import re
import unittest

import leastforge

ROOT = os.path.dirname(os.path.abspath(leastforge.__file__))

STATEMENTS = (ast.Assign, ast.AugAssign, ast.AnnAssign, ast.If, ast.While, ast.For, ast.Return, ast.Break, ast.Continue,
              ast.Pass, ast.Raise, ast.Try, ast.Expr, ast.FunctionDef, ast.ClassDef, ast.ImportFrom)
NOT_USED = (ast.Starred, ast.NamedExpr, ast.GeneratorExp, ast.SetComp, ast.DictComp, ast.Yield, ast.YieldFrom, ast.Await,
            ast.Div, ast.MatMult, ast.Nonlocal, ast.Global, ast.Delete, ast.With, ast.Assert, ast.AsyncFunctionDef)
PYTHONS_OWN = set("""len range enumerate zip min max sum abs sorted reversed int str bool list tuple dict set frozenset
    isinstance ord repr any all divmod Exception ValueError TypeError KeyError IndexError LookupError ZeroDivisionError
    ArithmeticError OverflowError RuntimeError NotImplementedError AttributeError StopIteration""".split())
METHODS = set("""append clear copy count endswith extend find get index insert isalnum isalpha isdigit islower isspace
    isupper items join keys ljust lower lstrip partition pop remove replace reverse rfind rjust rpartition rsplit rstrip
    setdefault split splitlines startswith strip update upper values zfill bit_length""".split())
WORDS = ("type typing typing_extensions enum Enum IntEnum StrEnum Flag IntFlag Generic Protocol ABC ABCMeta namedtuple "
         "NamedTuple TypedDict TYPE_CHECKING abstractmethod").split()
NO_VALUES = "items keys values pop update append clear extend insert remove reverse setdefault sort args encode format".split()


def source_files():
    for folder, folders, names in os.walk(ROOT):
        folders[:] = [name for name in folders if name != "__pycache__"]
        for name in sorted(names):
            yield os.path.join(folder, name)


def sources():
    for path in source_files():
        with open(path, encoding="utf-8") as file:
            text = file.read()
        yield os.path.relpath(path, ROOT), text, ast.parse(text)


class Language(unittest.TestCase):
    def test_files(self):
        for path in source_files():
            self.assertRegex(os.path.basename(path), r"^[a-z0-9_]+\.py$")
        self.assertTrue(os.path.exists(os.path.join(ROOT, "__init__.py")))

    def test_signs_and_sizes(self):
        for path, text, tree in sources():
            self.assertRegex(text, r"\A[\n -~]*\Z", path)
            rows = text.split("\n")
            self.assertLessEqual(len(rows) - 1, 400, path)
            for row in rows:
                self.assertLessEqual(len(row), 120, (path, row))
            for node in ast.walk(tree):
                if isinstance(node, ast.FunctionDef):
                    self.assertLessEqual(node.end_lineno - node.lineno + 1, 40, (path, node.name))

    def test_imports(self):
        drawn = {}
        for path, text, tree in sources():
            module = "leastforge." + path[:-3].replace(os.sep, ".")
            drawn[module] = []
            for node in ast.walk(tree):
                self.assertNotIsInstance(node, ast.Import, path)
                if isinstance(node, ast.ImportFrom):
                    self.assertIn(node, tree.body, path)
                    self.assertEqual(node.level, 0, path)
                    self.assertRegex(node.module, r"^(leastforge\.|__future__$)", path)
                    self.assertNotIn("*", [alias.name for alias in node.names], path)
                    drawn[module].append(node.module)
        for module in drawn:
            seen = []
            waiting = list(drawn[module])
            while waiting:
                other = waiting.pop()
                if other not in seen:
                    seen.append(other)
                    waiting.extend(drawn.get(other, []))
            self.assertNotIn(module, seen)

    def test_statements_and_expressions(self):
        for path, text, tree in sources():
            for node in ast.walk(tree):
                place = (path, getattr(node, "lineno", 0))
                self.assertNotIsInstance(node, NOT_USED, place)
                if isinstance(node, ast.stmt):
                    self.assertIsInstance(node, STATEMENTS, place)
                if isinstance(node, ast.Assign):
                    self.assertEqual(len(node.targets), 1, place)
                if isinstance(node, (ast.For, ast.While)):
                    self.assertEqual(node.orelse, [], place)
                if isinstance(node, ast.Try):
                    self.assertEqual(node.finalbody, [], place)
                    self.assertTrue(all(handler.type is not None for handler in node.handlers), place)
                if isinstance(node, ast.ListComp):
                    self.assertEqual(len(node.generators), 1, place)
                    self.assertLessEqual(len(node.generators[0].ifs), 1, place)
                if isinstance(node, (ast.FunctionDef, ast.ClassDef)):
                    self.assertEqual(node.decorator_list, [], place)
                if isinstance(node, ast.Constant):
                    self.assertNotIsInstance(node.value, (float, bytes, complex), place)
                    self.assertFalse(isinstance(node.value, str) and chr(37) in node.value, place)

    def test_is_stands_beside_none_and_truths(self):
        for path, text, tree in sources():
            for node in ast.walk(tree):
                if isinstance(node, ast.Compare):
                    for sign, other in zip(node.ops, node.comparators):
                        if isinstance(sign, (ast.Is, ast.IsNot)):
                            self.assertTrue(isinstance(other, ast.Constant) and other.value in (None, True, False), path)

    def test_names(self):
        for path, text, tree in sources():
            own = {node.name for node in ast.walk(tree) if isinstance(node, (ast.FunctionDef, ast.ClassDef))}
            for node in ast.walk(tree):
                if isinstance(node, ast.Name):
                    if isinstance(node.ctx, ast.Load):
                        self.assertFalse(node.id in dir(builtins) and node.id not in PYTHONS_OWN, (path, node.id))
                    else:
                        self.assertNotIn(node.id, dir(builtins), path)
                    self.assertFalse(node.id.startswith("_") and not node.id.startswith("__"), (path, node.id))
                if isinstance(node, ast.arg):
                    self.assertNotIn(node.arg, dir(builtins), path)
                    self.assertFalse(node.arg.startswith("_"), (path, node.arg))
            self.assertFalse(own & set(dir(builtins)), path)

    def test_methods(self):
        own = set()
        for path, text, tree in sources():
            for node in ast.walk(tree):
                if isinstance(node, ast.ClassDef):
                    own |= {part.name for part in node.body if isinstance(part, ast.FunctionDef)}
        for path, text, tree in sources():
            for node in ast.walk(tree):
                if isinstance(node, ast.Call) and isinstance(node.func, ast.Attribute):
                    self.assertIn(node.func.attr, METHODS | own, path)

    def test_no_name_is_a_method_and_a_value(self):
        methods = set()
        values = set()
        for path, text, tree in sources():
            for node in ast.walk(tree):
                if isinstance(node, ast.ClassDef):
                    methods |= {part.name for part in node.body if isinstance(part, ast.FunctionDef)}
                if isinstance(node, ast.Attribute) and isinstance(node.ctx, ast.Store):
                    self.assertNotIn(node.attr, NO_VALUES, path)
                    values.add(node.attr)
        self.assertEqual(methods & values, set())
        pythons = set(dir(str) + dir(int) + dir(list) + dir(dict) + dir(set) + dir(bytes)) - METHODS - {"add", "discard"}
        self.assertEqual((methods - {"__init__"}) & pythons, set())

    def test_no_local_is_called_like_a_class_or_an_import(self):
        for path, text, tree in sources():
            taken = {node.name for node in tree.body if isinstance(node, ast.ClassDef)}
            for node in tree.body:
                if isinstance(node, ast.ImportFrom):
                    taken |= {alias.name for alias in node.names}
            for node in ast.walk(tree):
                if isinstance(node, ast.arg):
                    self.assertNotIn(node.arg, taken, path)
                if isinstance(node, ast.Name) and isinstance(node.ctx, ast.Store):
                    self.assertNotIn(node.id, taken, path)

    def test_each_name_once_at_the_top(self):
        for path, text, tree in sources():
            names = []
            for node in tree.body:
                if isinstance(node, (ast.FunctionDef, ast.ClassDef)):
                    names.append(node.name)
                elif isinstance(node, ast.ImportFrom):
                    names.extend(alias.name for alias in node.names)
                elif isinstance(node, ast.Assign):
                    names.append(node.targets[0].id)
                else:
                    self.assertIs(node, tree.body[0], path)
                    self.assertIsInstance(node.value, ast.Constant, path)
            self.assertEqual(len(names), len(set(names)), path)

    def test_words_that_stand_nowhere(self):
        for path, text, tree in sources():
            for word in WORDS:
                self.assertIsNone(re.search(r"\b" + word + r"\b", text), (path, word))
            for word in ("dataclass", "overload", "contextmanager"):
                self.assertNotIn(word, text, path)


if __name__ == "__main__":
    unittest.main()
