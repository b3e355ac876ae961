"""The rules of the language subset that can be read off the files."""

import ast
import pathlib
import re
import unittest

FOLDER = pathlib.Path(__file__).resolve().parent.parent / "livingclock"
FILES = sorted(FOLDER.rglob("*"))
BUILTINS = (
    "len range enumerate zip min max sum abs sorted reversed int str bool list tuple dict set isinstance divmod any "
    "all ValueError super property"
).split()
BARRED = (
    "type typing typing_extensions enum Enum IntEnum StrEnum Flag IntFlag Generic Protocol ABC ABCMeta namedtuple "
    "NamedTuple TypedDict TYPE_CHECKING abstractmethod eval exec open input register law mro elements global async"
).split()
LIBRARY = {"math": {"gcd", "lcm"}, "heapq": {"heappop", "heappush"}}


def trees():
    """Return a list of triples: the path of a file, its text, its tree."""
    told = []
    for path in FILES:
        if path.suffix == ".py":
            text = path.read_text(encoding="utf-8")
            told.append((path, text, ast.parse(text)))
    return told


class LanguageTest(unittest.TestCase):

    def test_the_folder_has_python_files_only(self):
        for path in FILES:
            if "__pycache__" not in path.parts:
                self.assertRegex(path.name, r"^[a-z_]+\.py$")
        self.assertIn(FOLDER / "__init__.py", FILES)

    def test_sizes_and_characters(self):
        for path, text, tree in trees():
            lines = text.split("\n")
            self.assertLessEqual(len(lines), 399, path)
            for line in lines:
                self.assertLessEqual(len(line), 120, path)
                self.assertRegex(line, r"^[ -~]*$")
                self.assertEqual(line, line.rstrip())
            for node in ast.walk(tree):
                if isinstance(node, ast.FunctionDef):
                    self.assertLessEqual(node.end_lineno - node.lineno + 1, 40, node.name)

    def test_imports(self):
        names = {path.stem for path in FILES}
        for path, _, tree in trees():
            for node in ast.walk(tree):
                self.assertNotIsInstance(node, ast.Import, path)
                if isinstance(node, ast.ImportFrom):
                    self.assertEqual(node.level, 0)
                    self.assertIn(node, tree.body)
                    told = {alias.name for alias in node.names}
                    if node.module in LIBRARY:
                        self.assertLessEqual(told, LIBRARY[node.module])
                        continue
                    package, module = node.module.split(".")
                    self.assertEqual(package, "livingclock")
                    self.assertIn(module, names)
                    own = ast.parse((FOLDER / f"{module}.py").read_text(encoding="utf-8"))
                    defined = {part.name for part in own.body if isinstance(part, (ast.FunctionDef, ast.ClassDef))}
                    defined |= {part.targets[0].id for part in own.body if isinstance(part, ast.Assign)}
                    self.assertLessEqual(told, defined, path)

    def test_imports_do_not_go_round(self):
        needs = {
            path.stem: {
                node.module.split(".")[1] for node in tree.body
                if isinstance(node, ast.ImportFrom) and node.module.startswith("livingclock.")
            }
            for path, _, tree in trees()
        }
        while needs:
            free = [name for name in needs if not needs[name] & set(needs)]
            self.assertTrue(free, needs)
            for name in free:
                del needs[name]

    def test_module_level(self):
        for path, _, tree in trees():
            for node in tree.body:
                docstring = isinstance(node, ast.Expr) and node is tree.body[0]
                plain = isinstance(node, (ast.ImportFrom, ast.FunctionDef, ast.ClassDef, ast.Assign))
                self.assertTrue(docstring or plain, f"{path} {node.lineno}")

    def test_words(self):
        for path, text, _ in trees():
            words = set(re.findall(r"[A-Za-z_]+", text))
            self.assertEqual(words & set(BARRED), set(), path)
            self.assertNotIn("_wall", text)

    def test_expressions(self):
        for path, _, tree in trees():
            for node in ast.walk(tree):
                where = f"{path} {getattr(node, 'lineno', 0)}"
                self.assertNotIsInstance(node, (ast.Div, ast.Global, ast.AsyncFunctionDef, ast.Await), where)
                if isinstance(node, ast.Constant):
                    self.assertNotIsInstance(node.value, float, where)
                if isinstance(node, ast.FunctionDef):
                    told = [ast.unparse(part) for part in node.decorator_list]
                    self.assertIn(told, ([], ["property"]), where)
                if isinstance(node, ast.Compare):
                    for sign, side in zip(node.ops, node.comparators):
                        if isinstance(sign, (ast.Is, ast.IsNot)):
                            self.assertIsInstance(side, ast.Constant, where)

    def test_names(self):
        builtins = set(dir(__builtins__)) if not isinstance(__builtins__, dict) else set(__builtins__)
        for path, _, tree in trees():
            imported = {
                alias.name for node in tree.body if isinstance(node, ast.ImportFrom) for alias in node.names
            }
            for node in ast.walk(tree):
                where = f"{path} {getattr(node, 'lineno', 0)}"
                if isinstance(node, ast.Name) and isinstance(node.ctx, ast.Store):
                    self.assertNotIn(node.id, builtins | imported, where)
                if isinstance(node, ast.arg):
                    self.assertNotIn(node.arg, builtins | imported, where)
                if isinstance(node, (ast.FunctionDef, ast.ClassDef)):
                    self.assertNotIn(node.name, builtins | imported, where)
                if isinstance(node, ast.Name) and node.id in builtins:
                    self.assertIn(node.id, BUILTINS, where)

    def test_no_method_is_an_attribute(self):
        methods, attributes = set(), set()
        for _, _, tree in trees():
            for part in ast.walk(tree):
                if isinstance(part, ast.ClassDef):
                    methods |= {node.name for node in part.body if isinstance(node, ast.FunctionDef)}
                if isinstance(part, ast.Attribute) and isinstance(part.ctx, ast.Store):
                    attributes.add(part.attr)
        self.assertEqual(methods & attributes, set())

    def test_each_function_tells_what_it_does(self):
        for path, _, tree in trees():
            self.assertTrue(ast.get_docstring(tree), path)
            for node in ast.walk(tree):
                if isinstance(node, (ast.FunctionDef, ast.ClassDef)) and node.name != "__init__":
                    self.assertTrue(ast.get_docstring(node), f"{path} {node.name}")
