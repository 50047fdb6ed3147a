"""Those rules of the language of the package that can be seen file by file."""

import ast
import pathlib
import re
import unittest

PACKAGE = pathlib.Path(__file__).resolve().parent.parent / "looseknobs"

LIBRARY = {
    "heapq": {"heappush", "heappop", "heapify", "heapreplace", "heappushpop"},
    "math": {"gcd", "lcm", "isqrt", "comb", "perm", "factorial"},
    "itertools": {"product", "combinations", "permutations", "chain", "accumulate", "pairwise", "islice", "zip_longest"},
    "collections": {"defaultdict", "deque"},
}

BUILTINS = set(
    "len range enumerate zip min max sum abs sorted reversed int str bool bytes list tuple dict set frozenset "
    "isinstance ord repr any all divmod pow map iter next ValueError TypeError KeyError IndexError NotImplemented "
    "property staticmethod super".split()
)

DOUBLE = set(
    "init eq repr str len enter exit call iter lt le gt ge ne add sub mul floordiv mod and or xor lshift rshift radd "
    "rsub rmul rfloordiv rmod neg pos invert abs bool contains getitem setitem".split()
)

BARRED_NODES = (
    ast.AsyncFunctionDef, ast.AsyncFor, ast.AsyncWith, ast.Await, ast.Global, ast.Import, ast.Div,
)


def files():
    return sorted(PACKAGE.rglob("*.py"))


def nodes():
    for path in files():
        for node in ast.walk(ast.parse(path.read_text())):
            yield path.name, node


class LanguageTest(unittest.TestCase):
    def test_files(self):
        self.assertTrue((PACKAGE / "__init__.py").is_file())
        found = [path for path in PACKAGE.rglob("*") if "__pycache__" not in path.parts]
        self.assertEqual(sorted(found), files())
        for path in files():
            self.assertRegex(path.name, r"^[a-z_][a-z0-9_]*\.py$")

    def test_size_and_characters(self):
        for path in files():
            lines = path.read_text().split("\n")
            self.assertLessEqual(len(lines), 400, path.name)
            for number, line in enumerate(lines, 1):
                self.assertLessEqual(len(line), 120, (path.name, number))
                self.assertIsNone(re.search("[^ -~]", line), (path.name, number))

    def test_functions_are_small(self):
        for name, node in nodes():
            if isinstance(node, ast.FunctionDef):
                self.assertLessEqual(node.end_lineno - node.lineno + 1, 40, (name, node.name))

    def test_imports(self):
        for name, node in nodes():
            if isinstance(node, ast.ImportFrom):
                self.assertEqual(node.level, 0, name)
                for one in node.names:
                    own = node.module.startswith("looseknobs.")
                    self.assertTrue(own or one.name in LIBRARY.get(node.module, ()), (name, node.module, one.name))

    def test_statements(self):
        for name, node in nodes():
            self.assertNotIsInstance(node, BARRED_NODES, name)
            if isinstance(node, ast.Constant):
                self.assertNotIsInstance(node.value, (float, complex), name)
            if isinstance(node, ast.Compare) and isinstance(node.ops[0], (ast.Is, ast.IsNot)):
                self.assertIsInstance(node.comparators[0], ast.Constant, name)

    def test_methods_with_double_underscores(self):
        for name, node in nodes():
            if isinstance(node, ast.FunctionDef) and node.name.startswith("__"):
                self.assertIn(node.name.strip("_"), DOUBLE, name)

    def test_builtins(self):
        own = set(dir(__builtins__) if not isinstance(__builtins__, dict) else __builtins__)
        for name, node in nodes():
            if isinstance(node, ast.Name) and node.id in own:
                self.assertIn(node.id, BUILTINS, name)
                self.assertIsInstance(node.ctx, ast.Load, name)
            if isinstance(node, ast.arg):
                self.assertNotIn(node.arg, own, name)

    def test_module_level(self):
        allowed = (ast.Expr, ast.ImportFrom, ast.FunctionDef, ast.ClassDef, ast.Assign)
        for path in files():
            for node in ast.parse(path.read_text()).body:
                self.assertIsInstance(node, allowed, path.name)
                if isinstance(node, ast.Expr):
                    self.assertIsInstance(node.value, ast.Constant, path.name)

    def test_texts(self):
        for name, node in nodes():
            if isinstance(node, ast.Constant) and isinstance(node.value, str) and "\n" not in node.value:
                self.assertNotIn("%", node.value, name)

    def test_steps_of_reckoning(self):
        # Ratios have an order and an addition of their own: see L5.
        for name, node in nodes():
            if isinstance(node, ast.AugAssign):
                self.assertIsInstance(node.value, ast.Constant, (name, node.lineno))
                self.assertIsInstance(node.value.value, int, (name, node.lineno))
            if isinstance(node, ast.BinOp) and isinstance(node.op, ast.Pow):
                self.fail((name, node.lineno))

    def test_calls(self):
        for name, node in nodes():
            if isinstance(node, ast.Call):
                called = node.func.id if isinstance(node.func, ast.Name) else getattr(node.func, "attr", "")
                self.assertNotIn(called, ("sorted", "min", "sort", "chr"), (name, node.lineno))
                if called == "max":
                    kept = node.args[0].elt if isinstance(node.args[0], ast.ListComp) else node.args[0]
                    self.assertEqual(kept.func.id, "int", (name, node.lineno))
                if called in ("any", "all", "sum", "max"):
                    self.assertIsInstance(node.args[0], ast.ListComp, (name, node.lineno))
                if called == "set":
                    self.assertEqual(len(node.args), 1, (name, node.lineno))
                for argument in node.args:
                    if isinstance(argument, ast.Starred):
                        self.assertIsInstance(argument.value, ast.Name, (name, node.lineno))
            self.assertNotIsInstance(node, (ast.GeneratorExp, ast.Yield, ast.YieldFrom, ast.Lambda), name)

    def test_names(self):
        barred = ("_wall", "_pe_", "_dcw_", "_enum_", "_cm_", "_twin_re_", "_lay_", "_law_", "_stub_", "_sre")
        for name, node in nodes():
            told = getattr(node, "name", None) or getattr(node, "id", None) or getattr(node, "arg", None)
            if isinstance(told, str):
                self.assertFalse(told.startswith(barred), (name, told))
                self.assertNotIn(told, ("register", "mro", "elements", "open", "input", "law"), name)

    def test_imports_are_used_and_go_one_way(self):
        ahead = {}
        for path in files():
            tree = ast.parse(path.read_text())
            used = {node.id for node in ast.walk(tree) if isinstance(node, ast.Name)}
            for node in tree.body:
                if isinstance(node, ast.ImportFrom):
                    for one in node.names:
                        self.assertIn(one.name, used, path.name)
                        self.assertIsNone(one.asname)
                    ahead.setdefault(path.stem, set()).add(node.module.split(".")[-1])
        done = set()
        while len(done) < len(files()):
            more = {path.stem for path in files() if ahead.get(path.stem, set()) & {p.stem for p in files()} <= done} - done
            self.assertTrue(more, "imports go round")
            done |= more

    def test_locals_have_no_names_of_imports_and_classes(self):
        for path in files():
            tree = ast.parse(path.read_text())
            taken = {one.name for node in tree.body if isinstance(node, ast.ImportFrom) for one in node.names}
            taken |= {node.name for node in tree.body if isinstance(node, ast.ClassDef)}
            for node in ast.walk(tree):
                if isinstance(node, ast.Name) and isinstance(node.ctx, ast.Store):
                    self.assertNotIn(node.id, taken, path.name)
                if isinstance(node, ast.arg):
                    self.assertNotIn(node.arg, taken, path.name)


if __name__ == "__main__":
    unittest.main()
