"""What a test can see of ../shared/LANGUAGE.md: the names of the rules stand at each check."""

import ast
import builtins
import re
import unittest
from pathlib import Path

PACKAGE = Path(__file__).resolve().parent.parent / "twopartings"
FILES = sorted(path for path in PACKAGE.rglob("*") if "__pycache__" not in path.parts)
LIBRARY = {
    "heapq": {"heappush", "heappop", "heapify", "heapreplace", "heappushpop"},
    "math": {"gcd", "lcm", "isqrt", "comb", "perm", "factorial"},
    "itertools": {
        "product", "combinations", "permutations", "chain", "accumulate", "pairwise", "islice", "zip_longest",
    },
    "collections": {"defaultdict", "deque"},
}
BUILTINS = set(
    "len range enumerate zip min max sum abs sorted reversed int str bool bytes list tuple dict set isinstance ord "
    "repr any all divmod pow map iter next super type property staticmethod classmethod object "
    "Exception ValueError TypeError KeyError IndexError LookupError ZeroDivisionError ArithmeticError OverflowError "
    "RuntimeError NotImplementedError AttributeError StopIteration NotImplemented".split()
)
METHODS = set(
    "append clear copy count endswith extend find get index insert isalnum isalpha isdigit islower isspace isupper "
    "items join keys ljust lower lstrip partition pop remove replace reverse rfind rjust rpartition rsplit rstrip "
    "setdefault split splitlines startswith strip update upper values zfill bit_length sort add discard "
    "isascii isdecimal removeprefix removesuffix".split()
)
NEVER = (
    ast.AsyncFunctionDef, ast.AsyncFor, ast.AsyncWith, ast.Await, ast.Div, ast.MatMult, ast.Global, ast.Import,
)


def walked():
    for path in FILES:
        for node in ast.walk(ast.parse(path.read_text("ascii"))):
            yield path.name, node


class Language(unittest.TestCase):

    def test_files_l1_l14(self):
        for path in FILES:
            self.assertRegex(path.name, r"^[a-z_][a-z0-9_]*\.py$")
        self.assertIn(PACKAGE / "__init__.py", FILES)

    def test_size_and_characters_l10_l14(self):
        for path in FILES:
            text = path.read_bytes()
            self.assertIsNone(re.search(rb"[^ -~\n]", text), path.name)
            lines = text.split(b"\n")
            self.assertLessEqual(len(lines), 400, path.name)
            self.assertLessEqual(max(map(len, lines)), 120, path.name)

    def test_imports_l2_l16(self):
        for name, node in walked():
            if not isinstance(node, ast.ImportFrom):
                continue
            self.assertEqual(node.level, 0, name)
            words = [alias.name for alias in node.names]
            if node.module.startswith("twopartings."):
                source = ast.parse((PACKAGE / (node.module.split(".")[1] + ".py")).read_text("ascii"))
                defined = [item.name for item in source.body if hasattr(item, "name")]
                defined += [item.targets[0].id for item in source.body if isinstance(item, ast.Assign)]
                self.assertLessEqual(set(words), set(defined), name)
            else:
                self.assertLessEqual(set(words), LIBRARY[node.module], name)

    def test_functions_l4_l10_l28(self):
        for name, node in walked():
            if isinstance(node, ast.FunctionDef):
                self.assertLessEqual(node.end_lineno - node.lineno + 1, 40, (name, node.name))
                self.assertNotIn(node.name, dir(builtins), name)
            if isinstance(node, ast.arg):
                self.assertNotIn(node.arg, dir(builtins), name)
            if isinstance(node, ast.ClassDef):
                self.assertEqual(node.decorator_list, [], name)

    def test_statements_and_values_l6_l7_l27(self):
        for name, node in walked():
            self.assertNotIsInstance(node, NEVER, name)
            if isinstance(node, ast.Constant):
                self.assertNotIsInstance(node.value, (float, complex), name)
            if isinstance(node, ast.BinOp) and isinstance(node.op, ast.Pow):
                self.assertIsInstance(node.right, ast.Constant, name)
            if isinstance(node, (ast.For, ast.comprehension)):
                self.assertNotIsInstance(node.iter, (ast.Set, ast.SetComp), name)

    def test_builtins_l8(self):
        for name, node in walked():
            if isinstance(node, ast.Name) and hasattr(builtins, node.id):
                self.assertIn(node.id, BUILTINS, name)

    def test_methods_l25(self):
        own = {node.name for _, node in walked() if isinstance(node, ast.FunctionDef)}
        for name, node in walked():
            if isinstance(node, ast.Call) and isinstance(node.func, ast.Attribute):
                self.assertIn(node.func.attr, METHODS | own | {"__init__"}, name)

    def test_module_level_l3_l15(self):
        for path in FILES:
            body = ast.parse(path.read_text("ascii")).body
            bound = []
            for node in body:
                self.assertIsInstance(node, (ast.Expr, ast.ImportFrom, ast.FunctionDef, ast.ClassDef, ast.Assign))
                if isinstance(node, ast.Expr):
                    self.assertIs(node, body[0], path.name)
                elif isinstance(node, ast.ImportFrom):
                    bound += [alias.name for alias in node.names]
                else:
                    bound.append(node.targets[0].id if isinstance(node, ast.Assign) else node.name)
            self.assertEqual(len(set(bound)), len(bound), path.name)


if __name__ == "__main__":
    unittest.main()
