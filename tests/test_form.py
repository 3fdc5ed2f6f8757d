"""The form of the package's files, as far as a look at their syntax tells it."""

import ast
import builtins
from pathlib import Path
from unittest import TestCase

FOLDER = Path(__file__).resolve().parent.parent / "onesilent"
FILES = sorted(path for path in FOLDER.rglob("*") if path.is_file() and "__pycache__" not in path.parts)
CALLED = {
    "len", "range", "enumerate", "zip", "min", "max", "sum", "abs", "sorted", "reversed", "int", "str", "bool", "list",
    "tuple", "dict", "set", "isinstance", "ord", "repr", "any", "all", "divmod", "pow", "ValueError", "super", "type",
}
METHODS = {
    "append", "clear", "copy", "count", "endswith", "extend", "find", "get", "index", "insert", "isalnum", "isalpha",
    "isdigit", "items", "join", "keys", "partition", "pop", "remove", "replace", "reverse", "rfind", "setdefault",
    "split", "splitlines", "startswith", "strip", "update", "values", "add", "discard", "bit_length",
}
BARRED = (
    ast.AsyncFunctionDef, ast.GeneratorExp, ast.Yield, ast.YieldFrom, ast.Global, ast.Nonlocal, ast.Await, ast.Div,
    ast.Import, ast.ImportFrom, ast.With, ast.AnnAssign, ast.NamedExpr, ast.Match,
)
LIBRARY = {"heapq": {"heappush", "heappop"}, "itertools": {"combinations", "permutations"}}
NO_ATTRIBUTES = {
    "items", "keys", "values", "pop", "update", "append", "clear", "extend", "insert", "remove", "reverse",
    "setdefault", "sort", "args", "encode", "decode", "hex", "fromhex", "format", "format_map", "mro", "real", "imag",
    "numerator", "denominator", "conjugate", "discard", "union",
}
WORDS = (
    "register", "mro", "elements", "open", "input", "law", "version_info", "attrgetter", "dir", "eval", "exec", "exit",
    "gc", "globals", "help", "id", "locals", "os", "quit", "type", "vars", "enum", "typing", "map", "hash", "round",
)


def trees():
    return [(path, ast.parse(path.read_text("utf-8"))) for path in FILES]


def functions_of(tree):
    return [node for node in ast.walk(tree) if isinstance(node, ast.FunctionDef)]


def is_plain(node):
    """Whether an expression is a literal, or a tuple of such, or a dict of such and of functions."""
    if isinstance(node, ast.Dict):
        return all(is_plain(each) or isinstance(each, ast.Name) for each in [*node.keys, *node.values])
    return isinstance(node, ast.Constant) or isinstance(node, ast.Tuple) and all(is_plain(each) for each in node.elts)


class Form(TestCase):
    def test_the_folder_holds_python_files_alone(self):
        self.assertIn(FOLDER / "__init__.py", FILES)
        for path in FILES:
            self.assertRegex(path.name, r"\A[a-z0-9_]+\.py\Z")
            self.assertFalse(path.name.startswith("test"), path.name)

    def test_signs_and_sizes(self):
        for path in FILES:
            text = path.read_bytes()
            self.assertEqual({sign for sign in text if not (32 <= sign <= 126 or sign == 10)}, set(), path.name)
            lines = text.split(b"\n")
            self.assertLessEqual(len(lines), 399, path.name)
            self.assertLessEqual(max(len(line) for line in lines), 120, path.name)

    def test_functions_are_short_and_told_of(self):
        for path, tree in trees():
            self.assertIsNotNone(ast.get_docstring(tree), path.name)
            for node in functions_of(tree):
                self.assertLessEqual(node.end_lineno - node.lineno + 1, 40, node.name)
                self.assertEqual(node.decorator_list, [], node.name)
                self.assertTrue(ast.get_docstring(node) or node.name.startswith("__"), node.name)

    def test_statements_at_module_level(self):
        for path, tree in trees():
            for node in tree.body[1:]:
                kinds = (ast.ImportFrom, ast.FunctionDef, ast.ClassDef, ast.Assign)
                self.assertIsInstance(node, kinds, f"{path.name}:{node.lineno}")
                if isinstance(node, ast.Assign):
                    self.assertEqual(len(node.targets), 1, f"{path.name}:{node.lineno}")
                    self.assertTrue(is_plain(node.value), f"{path.name}:{node.lineno}")

    def test_imports_are_of_the_package_and_in_no_circle(self):
        behind = {}
        for path, tree in trees():
            found = [node for node in ast.walk(tree) if isinstance(node, ast.ImportFrom)]
            for node in found:
                self.assertIn(node, tree.body)
                if node.module in LIBRARY:
                    self.assertLessEqual({alias.name for alias in node.names}, LIBRARY[node.module])
                    continue
                self.assertEqual((node.level, node.module.split(".")[0]), (0, "onesilent"), path.name)
                self.assertIsNotNone(node.module.partition(".")[2])
                body = ast.parse((FOLDER / (node.module[10:] + ".py")).read_text()).body
                names = {part.name for part in body if isinstance(part, (ast.FunctionDef, ast.ClassDef))}
                names |= {part.targets[0].id for part in body if isinstance(part, ast.Assign)}
                for alias in node.names:
                    self.assertIn(alias.name, names)
                    self.assertIsNone(alias.asname)
            behind[path.stem] = {node.module[10:] for node in found if node.module not in LIBRARY}
        while behind:
            free = [name for name in behind if not behind[name] & set(behind)]
            self.assertTrue(free, behind)
            for name in free:
                del behind[name]

    def test_each_import_is_used(self):
        for path, tree in trees():
            used = {node.id for node in ast.walk(tree) if isinstance(node, ast.Name)}
            for node in tree.body:
                if isinstance(node, ast.ImportFrom):
                    for alias in node.names:
                        self.assertIn(alias.name, used, path.name)

    def test_no_barred_syntax(self):
        for path, tree in trees():
            for top in tree.body:
                for node in ast.walk(top):
                    if node is top and isinstance(node, ast.ImportFrom):
                        continue
                    self.assertNotIsInstance(node, BARRED, f"{path.name}:{getattr(node, 'lineno', 0)}")
                    if isinstance(node, ast.Constant):
                        self.assertNotIsInstance(node.value, (float, complex, bytes))

    def test_names(self):
        for path, tree in trees():
            given = {node.id for node in ast.walk(tree) if isinstance(node, ast.Name) and node.id not in CALLED}
            given |= {node.arg for node in ast.walk(tree) if isinstance(node, ast.arg)}
            given |= {node.name for node in functions_of(tree)}
            for name in given:
                self.assertNotIn(name, dir(builtins), path.name)
                self.assertNotIn(name, WORDS, path.name)
                self.assertRegex(name, r"\A(_|_?[A-Za-z][A-Za-z0-9_]*|__(init|eq|repr|str|len)__)\Z")
            imported = {alias.name for node in tree.body if isinstance(node, ast.ImportFrom) for alias in node.names}
            imported |= {node.name for node in tree.body if isinstance(node, ast.ClassDef)}
            local = {node.id for node in ast.walk(tree) if isinstance(node, ast.Name)
                     and not isinstance(node.ctx, ast.Load)} | {node.arg for node in ast.walk(tree)
                                                                if isinstance(node, ast.arg)}
            self.assertEqual(imported & local, set(), path.name)

    def test_attributes(self):
        for path, tree in trees():
            for made in [node for node in tree.body if isinstance(node, ast.ClassDef)]:
                given = {node.attr for node in ast.walk(made) if isinstance(node, ast.Attribute)
                         and isinstance(node.ctx, ast.Store)}
                self.assertEqual(given & NO_ATTRIBUTES, set(), path.name)
                self.assertEqual(given & {node.name for node in functions_of(made)}, set(), path.name)

    def test_attributes_are_assigned_through_names(self):
        for path, tree in trees():
            for node in ast.walk(tree):
                if isinstance(node, ast.Attribute) and isinstance(node.ctx, ast.Store):
                    self.assertIsInstance(node.value, ast.Name, f"{path.name}:{node.lineno}")

    def test_no_percent_sign_and_no_power(self):
        for path, tree in trees():
            self.assertNotIn("%", path.read_text("utf-8"), path.name)
            for node in ast.walk(tree):
                self.assertNotIsInstance(node, (ast.Pow, ast.Mod), path.name)

    def test_what_is_chosen_of_many_is_iterated_at_once(self):
        for path, tree in trees():
            spots = [node.iter for node in ast.walk(tree) if isinstance(node, (ast.For, ast.comprehension))]
            spots += [each for node in ast.walk(tree) if isinstance(node, ast.Call) and isinstance(node.func, ast.Name)
                      and node.func.id == "list" for each in node.args]
            calls = [node for node in ast.walk(tree) if isinstance(node, ast.Call) and isinstance(node.func, ast.Name)]
            for node in calls:
                if node.func.id in LIBRARY["itertools"]:
                    self.assertIn(node, spots, f"{path.name}:{node.lineno}")

    def test_type_is_asked_for_in_comparisons_alone(self):
        for path, tree in trees():
            sides = [node.left for node in ast.walk(tree) if isinstance(node, ast.Compare)]
            for node in ast.walk(tree):
                if isinstance(node, ast.Call) and isinstance(node.func, ast.Name) and node.func.id == "type":
                    self.assertIn(node, sides, f"{path.name}:{node.lineno}")

    def test_what_is_iterated_at_once(self):
        for path, tree in trees():
            spots = []
            for node in ast.walk(tree):
                if isinstance(node, (ast.For, ast.comprehension)):
                    spots.append(node.iter)
                elif isinstance(node, ast.Call) and isinstance(node.func, ast.Name):
                    spots.extend(node.args)
            for node in ast.walk(tree):
                if isinstance(node, ast.Call):
                    name = node.func.id if isinstance(node.func, ast.Name) else node.func.attr
                    if name in ("zip", "enumerate", "reversed", "range", "items", "keys", "values"):
                        self.assertIn(node, spots, f"{path.name}:{node.lineno}")
                    self.assertFalse(any(isinstance(each, ast.Starred) for each in node.args), path.name)

    def test_methods_of_values(self):
        for path, tree in trees():
            own = {node.name for _, each in trees() for node in functions_of(each)}
            for node in ast.walk(tree):
                if isinstance(node, ast.Call) and isinstance(node.func, ast.Attribute):
                    self.assertIn(node.func.attr, METHODS | own, f"{path.name}:{node.lineno}")

    def test_is_stands_beside_none_true_and_false(self):
        for path, tree in trees():
            for node in ast.walk(tree):
                if isinstance(node, ast.Compare):
                    for sign, side in zip(node.ops, node.comparators):
                        if isinstance(sign, (ast.Is, ast.IsNot)):
                            if isinstance(side, ast.Name) and side.id in ("dict", "list", "tuple"):
                                self.assertEqual(node.left.func.id, "type")
                                continue
                            self.assertIsInstance(side, ast.Constant, f"{path.name}:{node.lineno}")
                            self.assertIn(side.value, (None, True, False))

    def test_sets_are_sorted_or_measured_on_the_spot(self):
        for path, tree in trees():
            spots = [node.args[0] for node in ast.walk(tree) if isinstance(node, ast.Call) and node.args
                     and isinstance(node.func, ast.Name) and node.func.id in ("sorted", "len")]
            for node in ast.walk(tree):
                if isinstance(node, (ast.Set, ast.SetComp)):
                    self.assertIn(node, spots, f"{path.name}:{node.lineno}")

    def test_own_errors_alone_are_caught(self):
        body = ast.parse((FOLDER / "errors.py").read_text()).body
        own = {node.name for node in body if isinstance(node, ast.ClassDef)}
        for path, tree in trees():
            for node in ast.walk(tree):
                if isinstance(node, ast.Try):
                    self.assertEqual(node.finalbody, [], f"{path.name}:{node.lineno}")
                    for handler in node.handlers:
                        self.assertIn(handler.type.id, own, f"{path.name}:{handler.lineno}")

    def test_a_raise_makes_its_error(self):
        for path, tree in trees():
            for node in ast.walk(tree):
                if isinstance(node, ast.Raise):
                    self.assertIsInstance(node.exc, ast.Call, f"{path.name}:{node.lineno}")
                    self.assertIsInstance(node.exc.func, ast.Name)
