"""What can be seen of the rules for the files of the package.

These tests allow less than the rules do: what the rules allow, and a file needs, may be added to the lists below.
"""

import ast
import unittest
from pathlib import Path

FOLDER = Path(__file__).resolve().parent.parent / "wetfolds"
BUILTINS = set((
    "len range enumerate zip min max sum abs sorted reversed int str bool list tuple dict set isinstance any all "
    "ValueError"
).split())
METHODS = set("append extend get index items values join count partition bit_length add pop".split())
OWN_METHODS = {"_check_room", "_do"}
LIBRARY = {"math": {"gcd", "factorial", "comb"}}
FORBIDDEN = (
    ast.Global, ast.AsyncFunctionDef, ast.ExceptHandler, ast.With, ast.Yield, ast.YieldFrom, ast.Await, ast.Div, ast.Starred,
    ast.Import, ast.GeneratorExp, ast.Is, ast.IsNot, ast.Lambda, ast.Nonlocal, ast.NamedExpr,
)
WORDS = (
    "register mro elements open input law version_info with_traceback add_note type typing enum eval exec id vars "
    "dir help os sys quit exit globals locals dataclass overload contextmanager"
).split()


def files():
    return sorted(FOLDER.glob("*.py"))


def trees():
    return [(path, ast.parse(path.read_text())) for path in files()]


def is_none_test(node):
    return isinstance(node, ast.Compare) and isinstance(node.comparators[0], ast.Constant)


class Language(unittest.TestCase):
    def test_folder(self):
        names = {path.name for path in FOLDER.iterdir()} - {"__pycache__"}
        self.assertEqual(names, {path.name for path in files()})
        self.assertIn("__init__.py", names)

    def test_lines_and_characters(self):
        for path in files():
            text = path.read_text()
            self.assertTrue(all(sign == "\n" or " " <= sign <= "~" for sign in text), path)
            lines = text.split("\n")
            self.assertLessEqual(len(lines), 400)
            self.assertLessEqual(max(len(line) for line in lines), 120, path)

    def test_functions_are_short_and_told(self):
        for path, tree in trees():
            for node in ast.walk(tree):
                if isinstance(node, ast.FunctionDef):
                    self.assertLessEqual(node.end_lineno - node.lineno + 1, 40, (path, node.name))
                    told = ast.get_docstring(node) or node.name in ("__init__", "__len__", "__eq__")
                    self.assertTrue(told, (path, node.name))

    def test_decorators(self):
        for path, tree in trees():
            methods = [part for node in tree.body if isinstance(node, ast.ClassDef) for part in node.body]
            for node in ast.walk(tree):
                if isinstance(node, (ast.FunctionDef, ast.ClassDef)) and node.decorator_list:
                    self.assertIn(node, methods)
                    self.assertEqual([ast.unparse(part) for part in node.decorator_list], ["property"])
                    self.assertEqual(ast.unparse(node.args), "self")
                    self.assertEqual(len(node.body), 2)
                    self.assertIsInstance(node.body[1], ast.Return)

    def test_what_is_done_finally(self):
        simple = (ast.Name, ast.Attribute, ast.Tuple, ast.Load, ast.Store)
        for path, tree in trees():
            for node in ast.walk(tree):
                if isinstance(node, ast.Try):
                    self.assertEqual((node.handlers, node.orelse, len(node.finalbody)), ([], [], 1))
                    test, rows = node.finalbody[0].test, node.finalbody[0].body
                    self.assertTrue(is_none_test(test) and isinstance(test.left, ast.Name), path)
                    for row in rows:
                        self.assertIsInstance(row, ast.Assign)
                        for part in ast.walk(row):
                            self.assertIsInstance(part, simple + (ast.Assign,))

    def test_no_forbidden_statements(self):
        for path, tree in trees():
            for node in ast.walk(tree):
                if is_none_test(node) and node.comparators[0].value is None:
                    continue
                if isinstance(node, ast.Compare):
                    self.assertFalse(any(isinstance(op, (ast.Is, ast.IsNot)) for op in node.ops), (path, node.lineno))
                elif isinstance(node, FORBIDDEN) and not isinstance(node, (ast.Is, ast.IsNot)):
                    self.fail((path.name, node.lineno, ast.dump(node)[:60]))

    def test_imports(self):
        for path, tree in trees():
            for node in ast.walk(tree):
                if isinstance(node, ast.ImportFrom):
                    names = {alias.name for alias in node.names}
                    self.assertFalse(any(alias.asname for alias in node.names))
                    self.assertEqual(node.level, 0)
                    if node.module in LIBRARY:
                        self.assertLessEqual(names, LIBRARY[node.module])
                    else:
                        package, file = node.module.split(".")
                        self.assertEqual(package, "wetfolds")
                        defined = (FOLDER / (file + ".py")).read_text()
                        for name in names:
                            self.assertTrue(
                                any(f"\n{word} {name}{end}" in defined
                                    for word in ("def", "class") for end in "(:") or f"\n{name} = " in defined,
                                (path.name, name))

    def test_no_circles_of_imports(self):
        needs = {}
        for path, tree in trees():
            needs[path.stem] = {node.module.split(".")[1] for node in ast.walk(tree)
                                if isinstance(node, ast.ImportFrom) and node.module.startswith("wetfolds.")}
        while needs:
            free = [name for name in needs if not needs[name] & set(needs)]
            self.assertTrue(free, needs)
            for name in free:
                del needs[name]

    def test_names(self):
        for path, tree in trees():
            imported = {alias.name for node in ast.walk(tree) if isinstance(node, ast.ImportFrom)
                        for alias in node.names}
            told = {node.name for node in tree.body if isinstance(node, (ast.FunctionDef, ast.ClassDef))}
            for node in ast.walk(tree):
                names = []
                if isinstance(node, ast.arg):
                    names.append(node.arg)
                if isinstance(node, ast.Name) and isinstance(node.ctx, ast.Store):
                    names.append(node.id)
                for name in names:
                    self.assertNotIn(name, imported | told | BUILTINS, (path.name, node.lineno))
                    self.assertNotIn(name, WORDS)
                if isinstance(node, ast.FunctionDef):
                    self.assertNotIn(node.name, BUILTINS)

    def test_calls(self):
        for path, tree in trees():
            known = {node.name for node in ast.walk(tree) if isinstance(node, (ast.FunctionDef, ast.ClassDef))}
            known |= {node.arg for node in ast.walk(tree) if isinstance(node, ast.arg) and node.arg == "action"}
            known |= {alias.name for node in ast.walk(tree) if isinstance(node, ast.ImportFrom)
                      for alias in node.names}
            for node in ast.walk(tree):
                if isinstance(node, ast.Call):
                    if isinstance(node.func, ast.Name):
                        self.assertIn(node.func.id, known | BUILTINS, (path.name, node.lineno))
                    else:
                        self.assertIn(node.func.attr, METHODS | OWN_METHODS | {"__init__"}, (path.name, node.lineno))

    def test_exponents_and_strings(self):
        for path, tree in trees():
            for node in ast.walk(tree):
                if isinstance(node, ast.BinOp) and isinstance(node.op, ast.Pow):
                    self.assertIsInstance(node.right, ast.Constant, (path.name, node.lineno))
                if isinstance(node, ast.Constant) and isinstance(node.value, str):
                    self.assertNotIn("%", node.value)
                if isinstance(node, ast.Constant):
                    self.assertNotIsInstance(node.value, (float, bytes, complex))


if __name__ == "__main__":
    unittest.main()
