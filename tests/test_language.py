"""Rules of the language of this program that can be seen with little effort, over all files of the package."""

import ast
import builtins
import unittest
from pathlib import Path

PACKAGE = Path(__file__).resolve().parent.parent / "roadwaves"
LIBRARY = {
    "math": {"gcd", "lcm", "isqrt", "comb", "perm", "factorial"},
    "heapq": {"heappush", "heappop", "heapify", "heapreplace", "heappushpop"},
    "itertools": {"product", "combinations", "permutations", "chain", "accumulate", "pairwise", "islice",
                  "zip_longest"},
    "collections": {"defaultdict"},
    "__future__": {"annotations"},
}
BARRED_WORDS = {"type", "typing", "enum", "Enum", "Generic", "Protocol", "ABC", "namedtuple", "NamedTuple", "dataclass",
                "compile", "dir", "eval", "exec", "exit", "globals", "help", "id", "locals", "os", "quit", "vars", "sys"}
DOCUMENTED = (ast.Module, ast.ClassDef, ast.FunctionDef)
BARRED = (ast.Global, ast.AsyncFunctionDef, ast.Await, ast.Div, ast.TryStar)


def sources():
    """The name, the text and the tree of each file of the package."""
    found = []
    for path in sorted(PACKAGE.rglob("*.py")):
        text = path.read_text(encoding="utf-8")
        found.append((path.name, text, ast.parse(text)))
    return found


class Language(unittest.TestCase):
    def test_there_are_files(self):
        self.assertIn("kinds.py", [name for name, _, _ in sources()])

    def test_files(self):
        for path in PACKAGE.rglob("*"):
            if "__pycache__" not in path.parts and path.is_file():
                with self.subTest(path=path):
                    self.assertEqual(".py", path.suffix)
                    self.assertRegex(path.stem, "^[a-z_][a-z0-9_]*$")

    def test_sizes_and_signs(self):
        for name, text, tree in sources():
            with self.subTest(name=name):
                lines = text.split("\n")
                self.assertLessEqual(len(lines), 400)
                self.assertLessEqual(max(map(len, lines)), 120)
                self.assertTrue(all(" " <= sign <= "~" for line in lines for sign in line))
                for node in ast.walk(tree):
                    if isinstance(node, ast.FunctionDef):
                        self.assertLessEqual(node.end_lineno - node.lineno + 1, 40, node.name)

    def test_imports(self):
        for name, _, tree in sources():
            for node in ast.walk(tree):
                if isinstance(node, ast.ImportFrom):
                    with self.subTest(name=name, line=node.lineno):
                        self.assertEqual(0, node.level)
                        self.assertIn(node, tree.body)
                        told = {alias.name for alias in node.names}
                        own = node.module.startswith("roadwaves.") and "*" not in told
                        self.assertTrue(own or told <= LIBRARY.get(node.module, set()))
                elif isinstance(node, ast.Import):
                    self.assertEqual(("__main__.py", ["sys"]), (name, [alias.name for alias in node.names]))

    def test_all_that_is_imported_is_used(self):
        for name, _, tree in sources():
            told = {alias.name for node in tree.body if isinstance(node, ast.ImportFrom) for alias in node.names}
            used = {node.id for node in ast.walk(tree) if isinstance(node, ast.Name)}
            self.assertEqual(set(), told - used, name)

    def test_names_with_one_meaning(self):
        for name, _, tree in sources():
            told = {alias.name for node in tree.body if isinstance(node, ast.ImportFrom) for alias in node.names}
            told |= {node.name for node in tree.body if isinstance(node, ast.ClassDef)} | set(dir(builtins)) - {"_"}
            for node in ast.walk(tree):
                found = {node.id} if isinstance(node, ast.Name) and isinstance(node.ctx, ast.Store) else set()
                found |= {node.arg} if isinstance(node, ast.arg) else set()
                self.assertEqual(set(), found & told, name)

    def test_no_file_imports_itself_through_others(self):
        imported = {}
        for name, _, tree in sources():
            modules = [node.module for node in tree.body if isinstance(node, ast.ImportFrom)]
            imported[name] = {module.split(".")[1] + ".py" for module in modules if module.startswith("roadwaves.")}
        while any(imported.values()):
            free = [name for name, found in imported.items() if found and not any(imported[one] for one in found)]
            self.assertTrue(free, imported)
            for name in free:
                imported[name] = set()

    def test_barred_words(self):
        nowhere = {"register", "mro", "elements", "open", "input", "law", "version_info", "with_traceback", "add_note"}
        for name, _, tree in sources():
            for node in ast.walk(tree):
                found = {getattr(node, field, None) for field in ("id", "arg", "attr", "name")}
                self.assertEqual(set(), found & (nowhere | BARRED_WORDS), name)

    def test_strings(self):
        for name, _, tree in sources():
            told = [node.body[0].value for node in ast.walk(tree) if isinstance(node, DOCUMENTED) and ast.get_docstring(node)]
            for node in ast.walk(tree):
                if isinstance(node, ast.Constant) and isinstance(node.value, str):
                    self.assertNotIn("%", node.value, name)
                    if node not in told:
                        self.assertEqual(set(), set(node.value.split()) & BARRED_WORDS, name)

    def test_exponents_are_small_literals(self):
        for name, _, tree in sources():
            for node in ast.walk(tree):
                if isinstance(node, ast.BinOp) and isinstance(node.op, ast.Pow):
                    self.assertIsInstance(node.right, ast.Constant, name)
                    self.assertIn(node.right.value, range(65), name)

    def test_sets_are_not_kept(self):
        # A set stands behind `in`, beside `==` or directly in `len` or `sorted`.
        for name, _, tree in sources():
            for node in ast.walk(tree):
                if isinstance(node, (ast.Assign, ast.Return)):
                    value = node.value
                    call = isinstance(value, ast.Call) and isinstance(value.func, ast.Name) and value.func.id == "set"
                    self.assertFalse(call or isinstance(value, (ast.Set, ast.SetComp)), name)

    def test_no_lists_are_sorted_in_place(self):
        for name, text, _ in sources():
            self.assertNotIn(".sort(", text, name)

    def test_no_floats_and_barred_statements(self):
        for name, _, tree in sources():
            for node in ast.walk(tree):
                with self.subTest(name=name, line=getattr(node, "lineno", None)):
                    self.assertNotIsInstance(node, BARRED)
                    self.assertNotIsInstance(getattr(node, "value", None), (float, complex))


if __name__ == "__main__":
    unittest.main()
