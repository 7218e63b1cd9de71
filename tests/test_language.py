"""The rules of LANGUAGE.md that can be told from the code alone: files, imports, names, sizes, signs."""

import ast
import builtins
import pathlib
import re
import unittest

PACKAGE = pathlib.Path(__file__).resolve().parent.parent / "damworks"

BUILTINS = set("""len range enumerate zip min max sum abs sorted reversed int str bool list tuple dict set isinstance
ord repr any all divmod map iter next super Exception ValueError TypeError KeyError IndexError LookupError
ZeroDivisionError""".split())

LIBRARY = {"math": {"gcd", "lcm", "isqrt", "comb"}, "itertools": {"product", "combinations", "permutations"}}

METHODS = set("""append clear copy count endswith extend find get index insert isalnum isalpha isdigit islower isspace
isupper items join keys ljust lower lstrip partition pop remove replace reverse rfind rjust rpartition rsplit rstrip
setdefault split splitlines startswith strip update upper values zfill bit_length __init__""".split())

BARRED = r"\b(typing|enum|Enum|Flag|Generic|Protocol|ABC|namedtuple|NamedTuple|register|mro|elements|open|input|law)\b"

STATEMENTS = (
    ast.Assign, ast.AugAssign, ast.If, ast.While, ast.For, ast.Return, ast.Break, ast.Continue, ast.Pass, ast.Raise,
    ast.Assert, ast.Try, ast.Expr, ast.FunctionDef, ast.ClassDef, ast.ImportFrom,
)


def modules():
    """The name, text and tree of each file of the package."""
    for path in sorted(PACKAGE.glob("*.py")):
        text = path.read_text(encoding="utf-8")
        yield path.name, text, ast.parse(text)


def bound_names(tree):
    """All names that a file gives a meaning of its own, imports aside."""
    for node in ast.walk(tree):
        if isinstance(node, (ast.FunctionDef, ast.ClassDef)):
            yield node.name
        elif isinstance(node, ast.arg):
            yield node.arg
        elif isinstance(node, ast.Name) and isinstance(node.ctx, ast.Store):
            yield node.id


def imported_names(tree):
    """All names that a file imports."""
    return [name.name for node in ast.walk(tree) if isinstance(node, ast.ImportFrom) for name in node.names]


class LanguageTest(unittest.TestCase):
    def test_files(self):
        names = {path.name for path in PACKAGE.iterdir()} - {"__pycache__"}
        self.assertIn("__init__.py", names)
        for name in names:
            self.assertRegex(name, r"^[a-z_]+\.py$")

    def test_sizes_and_signs(self):
        for _, text, tree in modules():
            self.assertRegex(text, r"\A[\n -~]*\n\Z")
            self.assertLess(text.count("\n"), 400)
            self.assertLessEqual(max(map(len, text.split("\n"))), 120)
            for node in ast.walk(tree):
                if isinstance(node, ast.FunctionDef):
                    self.assertLessEqual(node.end_lineno - node.lineno, 39, node.name)

    def test_imports(self):
        for _, _, tree in modules():
            for node in ast.walk(tree):
                self.assertNotIsInstance(node, ast.Import)
                if isinstance(node, ast.ImportFrom):
                    self.assertTrue(all(name.asname is None for name in node.names))
                    if node.module in LIBRARY:
                        self.assertLessEqual({name.name for name in node.names}, LIBRARY[node.module])
                    else:
                        self.assertRegex(node.module, r"^damworks\.[a-z]+$")
            self.assertFalse(set(imported_names(tree)) & set(bound_names(tree)))

    def test_imports_name_the_file_that_defines(self):
        defined = {
            "damworks." + name[:-3]: {
                inner
                for node in tree.body
                for inner in ([node.name] if hasattr(node, "name") else [t.id for t in getattr(node, "targets", [])])
            }
            for name, _, tree in modules()
        }
        for _, _, tree in modules():
            for node in tree.body:
                if isinstance(node, ast.ImportFrom) and node.module in defined:
                    self.assertLessEqual({name.name for name in node.names}, defined[node.module])

    def test_no_circles_of_imports(self):
        needs = {
            "damworks." + name[:-3]: {node.module for node in tree.body if isinstance(node, ast.ImportFrom)}
            for name, _, tree in modules()
        }
        done = set(LIBRARY)
        while needs:
            ready = [name for name in needs if needs[name] <= done]
            self.assertTrue(ready, needs)
            done |= set(ready)
            needs = {name: needs[name] for name in needs if name not in done}

    def test_module_level(self):
        for _, _, tree in modules():
            names = imported_names(tree)
            for node in tree.body:
                self.assertIsInstance(node, (ast.Expr, ast.ImportFrom, ast.FunctionDef, ast.ClassDef, ast.Assign))
                if isinstance(node, ast.Assign):
                    ast.literal_eval(node.value)
                    names.append(node.targets[0].id)
                elif isinstance(node, (ast.FunctionDef, ast.ClassDef)):
                    self.assertFalse(node.decorator_list)
                    names.append(node.name)
            self.assertEqual(len(names), len(set(names)))

    def test_statements_and_expressions(self):
        barred = (ast.Div, ast.Await, ast.Global, ast.AnnAssign)
        for _, _, tree in modules():
            for node in ast.walk(tree):
                self.assertNotIsInstance(node, barred)
                if isinstance(node, ast.stmt):
                    self.assertIsInstance(node, STATEMENTS)
                if isinstance(node, ast.Constant):
                    self.assertNotIsInstance(node.value, (float, complex))

    def test_names(self):
        for _, _, tree in modules():
            own = set(bound_names(tree)) | set(imported_names(tree))
            self.assertFalse(own & set(dir(builtins)))
            for node in ast.walk(tree):
                if isinstance(node, ast.Name) and node.id not in own:
                    self.assertIn(node.id, BUILTINS)
                if isinstance(node, ast.Call) and isinstance(node.func, ast.Attribute):
                    self.assertIn(node.func.attr, METHODS)
            for name in own - {"_", "__init__"}:
                self.assertRegex(name, r"^_?[A-Za-z][A-Za-z0-9_]*$")
                self.assertIsNone(re.search(BARRED, name))

    def test_words(self):
        for _, text, tree in modules():
            self.assertIsNone(re.search(r"_wall|_WallAttr|dataclass|overload|contextmanager", text))
            for node in ast.walk(tree):
                if isinstance(node, ast.Constant) and isinstance(node.value, str):
                    self.assertNotIn("%", node.value)

    def test_is_stands_beside_plain_values(self):
        for _, _, tree in modules():
            for node in ast.walk(tree):
                if isinstance(node, ast.Compare) and any(isinstance(op, (ast.Is, ast.IsNot)) for op in node.ops):
                    self.assertTrue(all(isinstance(one, ast.Constant) for one in node.comparators))

    def test_loops_that_are_kept(self):
        kept = {"zip", "enumerate", "reversed", "range", "map", "combinations", "product", "permutations"}
        for _, _, tree in modules():
            for node in ast.walk(tree):
                if isinstance(node, (ast.Assign, ast.Return)) and isinstance(node.value, ast.Call):
                    self.assertNotIn(getattr(node.value.func, "id", None), kept)

    def test_generator_expressions(self):
        takers = {"list", "tuple", "dict", "sorted", "sum", "min", "max", "any", "all"}
        for _, _, tree in modules():
            for node in ast.walk(tree):
                for inner in ast.iter_child_nodes(node):
                    if isinstance(inner, ast.GeneratorExp):
                        self.assertIsInstance(node, ast.Call)
                        self.assertIn(node.func.id, takers)

    def test_comprehensions_have_names_of_their_own(self):
        comprehensions = (ast.ListComp, ast.GeneratorExp, ast.DictComp, ast.SetComp)
        for _, _, tree in modules():
            for function in ast.walk(tree):
                if isinstance(function, ast.FunctionDef):
                    inner = {
                        id(name) for node in ast.walk(function) if isinstance(node, comprehensions)
                        for part in node.generators for name in ast.walk(part.target)
                    }
                    stored = [
                        node for node in ast.walk(function)
                        if isinstance(node, ast.Name) and isinstance(node.ctx, ast.Store) and node.id != "_"
                    ]
                    outer = {node.id for node in stored if id(node) not in inner}
                    outer |= {argument.arg for argument in function.args.args}
                    found = {node.id for node in stored if id(node) in inner}
                    self.assertFalse(outer & found, function.name)


if __name__ == "__main__":
    unittest.main()
