"""The rules of the language that a short program can look for in the files of the package."""

import ast
import builtins
import io
import re
import tokenize
import unittest
from pathlib import Path

PACKAGE = Path(__file__).resolve().parent.parent / "anychain"
FILES = sorted(PACKAGE.rglob("*.py"))
# A doctest before this one may have left `_` there.
BUILTIN_NAMES = set(dir(builtins)) - {"_"}

BUILTINS = set(
    "len range enumerate zip min max sum abs sorted reversed int str bool list tuple dict set isinstance ord repr any "
    "all divmod type Exception ValueError TypeError KeyError IndexError LookupError ZeroDivisionError".split()
)
METHODS = set(
    "append clear copy count endswith extend find get index insert isalnum isalpha isdigit islower isspace isupper "
    "items join keys ljust lower lstrip partition pop remove replace reverse rfind rjust rpartition rsplit rstrip "
    "setdefault split splitlines startswith strip update upper values zfill bit_length __init__ add discard "
    "decode".split()
)
STATEMENTS = (
    ast.Assign, ast.AugAssign, ast.If, ast.While, ast.For, ast.Return, ast.Break, ast.Continue, ast.Pass, ast.Raise,
    ast.Assert, ast.Delete, ast.Expr, ast.Try, ast.FunctionDef, ast.ClassDef, ast.ImportFrom,
)
BARRED = (
    ast.Global, ast.Nonlocal, ast.Yield, ast.YieldFrom, ast.Await, ast.NamedExpr, ast.Starred, ast.JoinedStr,
    ast.GeneratorExp, ast.SetComp, ast.Div, ast.Mod, ast.AsyncFunctionDef,
)


def names_bound(tree):
    """All names that a function binds, the parameters included."""
    for node in ast.walk(tree):
        if isinstance(node, ast.arg):
            yield node.arg
        elif isinstance(node, ast.Name) and isinstance(node.ctx, ast.Store):
            yield node.id


def is_plain_is(node):
    """Tell whether a comparison by `is` is one with None, or one of a class by its name."""
    right = node.comparators[0]
    if isinstance(right, ast.Constant):
        return right.value is None
    left = node.left
    return isinstance(left, ast.Call) and left.func.id == "type" and isinstance(right, ast.Name)


class Language(unittest.TestCase):
    def trees(self):
        for path in FILES:
            yield path, ast.parse(path.read_text())

    def test_files(self):
        self.assertTrue(FILES)
        for path in PACKAGE.rglob("*"):
            if "__pycache__" not in path.parts:
                self.assertEqual(path.suffix, ".py")
                self.assertRegex(path.stem, "^[a-z0-9_]+$")
                self.assertNotIn(path.stem, BUILTIN_NAMES)
        for path in FILES:
            text = path.read_text()
            self.assertTrue(all(32 <= ord(sign) <= 126 or sign == "\n" for sign in text), path)
            self.assertLess(text.count("\n"), 400, path)
            self.assertLessEqual(max(len(line) for line in text.split("\n")), 120, path)

    def test_statements_and_signs(self):
        for path, tree in self.trees():
            for node in ast.walk(tree):
                if isinstance(node, ast.stmt):
                    self.assertIsInstance(node, STATEMENTS, ast.dump(node))
                self.assertNotIsInstance(node, BARRED)
                if isinstance(node, ast.Compare) and any(isinstance(sign, (ast.Is, ast.IsNot)) for sign in node.ops):
                    self.assertTrue(is_plain_is(node), ast.dump(node))
                if isinstance(node, ast.Constant):
                    self.assertNotIsInstance(node.value, (float, complex))
                if isinstance(node, (ast.FunctionDef, ast.ClassDef)):
                    self.assertEqual(node.decorator_list, [])

    def test_strings(self):
        for path in FILES:
            for token in tokenize.generate_tokens(io.StringIO(path.read_text()).readline):
                if token.type == tokenize.STRING:
                    self.assertIn(token.string[0], "\"b")
                    escapes = {found[0][:2] for found in re.finditer(r"\\.", token.string)}
                    allowed = {"\\n", "\\t", "\\\\", "\\\""} | ({"\\x"} if token.string[0] == "b" else set())
                    self.assertLessEqual(escapes, allowed, token.string)
                    self.assertNotIn("%", token.string)
                    self.assertFalse(token.string.endswith(('._"', '.__"')))

    def test_bytes(self):
        """They are decoded as ASCII, and nothing else is done with them."""
        for path, tree in self.trees():
            for node in ast.walk(tree):
                if isinstance(node, ast.Call) and isinstance(node.func, ast.Attribute) and node.func.attr == "decode":
                    self.assertEqual([part.value for part in node.args], ["ascii"])
                    self.assertEqual(node.keywords, [])

    def test_ranges_and_the_like_are_iterated_at_once(self):
        """They stand in a loop, in a comprehension, or in a builtin that goes over them."""
        lazy = {"range", "zip", "enumerate", "reversed"}
        eager = {"list", "tuple", "dict", "sorted", "sum", "any", "all", "min", "max", "enumerate", "zip", "reversed"}
        for path, tree in self.trees():
            good = set()
            for node in ast.walk(tree):
                if isinstance(node, (ast.For, ast.comprehension)):
                    good.add(node.iter)
                elif isinstance(node, ast.Call) and getattr(node.func, "id", None) in eager:
                    good.update(node.args)
            for node in ast.walk(tree):
                if isinstance(node, ast.Call) and getattr(node.func, "id", None) in lazy:
                    self.assertIn(node, good, (path, node.lineno))

    def test_module_level(self):
        for path, tree in self.trees():
            for at, node in enumerate(tree.body):
                if isinstance(node, ast.Expr):
                    self.assertTrue(at == 0 and isinstance(node.value, ast.Constant))
                elif isinstance(node, ast.Assign):
                    ast.literal_eval(node.value)
                else:
                    self.assertIsInstance(node, (ast.ImportFrom, ast.FunctionDef, ast.ClassDef))
            self.assertIsInstance(tree.body[0], ast.Expr, "each file begins with a docstring")

    def test_imports(self):
        tops = {}
        for path, tree in self.trees():
            tops["anychain." + path.stem] = {
                name for node in tree.body for name in (
                    [node.name] if isinstance(node, (ast.FunctionDef, ast.ClassDef))
                    else [target.id for target in node.targets] if isinstance(node, ast.Assign) else [])
            }
        tops["heapq"] = {"heappush", "heappop"}
        links = {"heapq": set()}
        for path, tree in self.trees():
            used = {node.id for node in ast.walk(tree) if isinstance(node, ast.Name)}
            for node in tree.body:
                if isinstance(node, ast.ImportFrom):
                    self.assertIn(node.module, tops)
                    links.setdefault("anychain." + path.stem, set()).add(node.module)
                    for alias in node.names:
                        self.assertIsNone(alias.asname)
                        self.assertIn(alias.name, tops[node.module])
                        self.assertIn(alias.name, used, "imported, but not used")
        while links:
            free = [name for name in links if not links[name] & set(links)]
            self.assertTrue(free, "files import from each other")
            for name in free:
                del links[name]

    def test_classes(self):
        plain = set().union(*(dir(kind) for kind in (int, str, bytes, list, tuple, dict, set))) - set(dir(object))
        for path, tree in self.trees():
            for node in ast.walk(tree):
                if isinstance(node, ast.ClassDef):
                    methods = [part.name for part in node.body if isinstance(part, ast.FunctionDef)]
                    inner = list(ast.walk(node))
                    kept = {
                        part.attr for part in inner
                        if isinstance(part, ast.Attribute) and getattr(part.value, "id", None) == "self"
                    }
                    stored = {
                        part.attr for part in inner
                        if isinstance(part, ast.Attribute) and isinstance(part.ctx, ast.Store)
                    }
                    self.assertEqual(len(methods), len(set(methods)))
                    self.assertLessEqual(kept, stored | set(methods))
                    self.assertEqual(stored & set(methods), set(), "an attribute and a method")
                    self.assertEqual((stored | set(methods)) & plain, set(), "a name of builtin values")

    def test_no_name_is_a_method_and_an_attribute(self):
        methods = set()
        stored = set()
        for path, tree in self.trees():
            for node in ast.walk(tree):
                if isinstance(node, ast.ClassDef):
                    methods |= {part.name for part in node.body if isinstance(part, ast.FunctionDef)}
                elif isinstance(node, ast.Attribute) and isinstance(node.ctx, ast.Store):
                    stored.add(node.attr)
        self.assertEqual(methods & stored, set())

    def test_functions_and_names(self):
        own = {
            part.name for _, tree in self.trees() for node in ast.walk(tree) if isinstance(node, ast.ClassDef)
            for part in node.body if isinstance(part, ast.FunctionDef)
        }
        for path, tree in self.trees():
            taken = {alias.name for node in tree.body if isinstance(node, ast.ImportFrom) for alias in node.names}
            taken |= {node.name for node in tree.body if isinstance(node, (ast.ClassDef, ast.FunctionDef))}
            for node in ast.walk(tree):
                if isinstance(node, ast.FunctionDef):
                    self.assertLessEqual(node.end_lineno - node.lineno + 1, 40, node.name)
                    self.assertTrue(ast.get_docstring(node) or node.name == "__init__", node.name)
                    for name in names_bound(node):
                        self.assertNotIn(name, taken, node.name)
                        self.assertNotIn(name, BUILTIN_NAMES, node.name)
                elif isinstance(node, ast.Name) and node.id in BUILTIN_NAMES:
                    self.assertIn(node.id, BUILTINS)
                elif isinstance(node, ast.Call) and isinstance(node.func, ast.Attribute):
                    self.assertIn(node.func.attr, METHODS | own)

    def test_loops_do_not_change_what_they_go_over(self):
        for path, tree in self.trees():
            for loop in ast.walk(tree):
                if isinstance(loop, ast.For) and isinstance(loop.iter, ast.Name):
                    for node in ast.walk(ast.Module(loop.body, [])):
                        changes = isinstance(node, (ast.Subscript, ast.Name)) and not isinstance(node.ctx, ast.Load)
                        changes = changes or isinstance(node, ast.Attribute)
                        if changes:
                            inner = node if isinstance(node, ast.Name) else node.value
                            self.assertNotEqual(getattr(inner, "id", None), loop.iter.id, loop.lineno)


if __name__ == "__main__":
    unittest.main()
