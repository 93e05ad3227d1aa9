"""The rules of the language (L1 to L28) that can be seen by the form of the code alone."""

import ast
import builtins
import pathlib
import re
import unittest

TOP = pathlib.Path(__file__).resolve().parent.parent
PACKAGE = TOP / "peersmeet"

BUILTINS = set(
    "len range enumerate zip min max sum abs sorted reversed int str bool bytes list tuple dict set isinstance ord "
    "repr any all divmod super Exception ValueError TypeError KeyError IndexError LookupError".split()
)
METHODS = set(
    "append clear copy count endswith extend find get index insert isalnum isalpha isdigit islower isspace isupper "
    "items join keys ljust lower lstrip partition pop remove replace reverse rfind rjust rpartition rsplit rstrip "
    "setdefault split splitlines startswith strip update upper values zfill bit_length".split()
)
SPECIAL = {"__init__", "__eq__", "__repr__", "__str__", "__len__"}
LIBRARY = {"heapq", "math", "itertools", "collections"}
BARRED_WORDS = re.compile(
    r"\b(typing|typing_extensions|enum|Enum|IntEnum|Flag|Generic|Protocol|ABC|namedtuple|NamedTuple|TypedDict|"
    r"dataclass|overload|contextmanager|register|mro|elements|open|input|law|eval|exec|exit|globals|locals|vars)\b"
)
BARRED_NODES = (
    ast.AsyncFunctionDef, ast.AsyncFor, ast.AsyncWith, ast.Await, ast.Global, ast.GeneratorExp, ast.Set, ast.Div,
)


def files():
    return sorted(PACKAGE.rglob("*.py"))


def trees():
    return [(path, ast.parse(path.read_text())) for path in files()]


def nodes(kind):
    return [(path, node) for path, tree in trees() for node in ast.walk(tree) if isinstance(node, kind)]


def own_names(kind):
    return {node.name for _, node in nodes(kind)}


class Files(unittest.TestCase):
    def test_the_folder_holds_plain_files_alone(self):
        for path in PACKAGE.rglob("*"):
            if "__pycache__" not in path.parts:
                self.assertTrue(path.suffix == ".py" or path.is_dir(), path)
                self.assertRegex(path.stem, r"^([a-z][a-z0-9_]*|__init__|__main__)$")

    def test_sizes_and_signs(self):
        for path in files():
            text = path.read_text()
            lines = text.splitlines()
            self.assertLess(len(lines), 400, path)
            for line in lines:
                self.assertLessEqual(len(line), 120, (path, line))
            self.assertTrue(all(sign == "\n" or " " <= sign <= "~" for sign in text), path)

    def test_functions_have_at_most_forty_lines(self):
        for path, node in nodes(ast.FunctionDef):
            self.assertLessEqual(node.end_lineno - node.lineno + 1, 40, (path, node.name))

    def test_each_file_tells_what_it_is(self):
        for path, tree in trees():
            self.assertTrue(ast.get_docstring(tree), path)


class Imports(unittest.TestCase):
    def test_from_the_package_alone_and_from_the_file_that_defines(self):
        defined = {}
        for path, tree in trees():
            names = set()
            for node in tree.body:
                if isinstance(node, (ast.FunctionDef, ast.ClassDef)):
                    names.add(node.name)
                elif isinstance(node, ast.Assign):
                    names.update(target.id for target in node.targets)
            defined["peersmeet." + path.stem] = names
        self.assertEqual([path for path, _ in nodes(ast.Import)], [])
        for path, node in nodes(ast.ImportFrom):
            self.assertEqual(node.level, 0, path)
            if node.module not in LIBRARY:
                for alias in node.names:
                    self.assertIn(alias.name, defined[node.module], path)
                    self.assertIs(alias.asname, None)

    def test_no_two_files_import_from_each_other(self):
        known = {}
        for path, tree in trees():
            known["peersmeet." + path.stem] = {
                node.module for node in ast.walk(tree) if isinstance(node, ast.ImportFrom)} - LIBRARY
        while known:
            free = [name for name, needed in known.items() if not needed & set(known)]
            self.assertTrue(free, known)
            for name in free:
                del known[name]

    def test_what_is_imported_is_used(self):
        for path, tree in trees():
            used = {node.id for node in ast.walk(tree) if isinstance(node, ast.Name)}
            for node in ast.walk(tree):
                if isinstance(node, ast.ImportFrom):
                    for alias in node.names:
                        self.assertIn(alias.name, used, path)


class Code(unittest.TestCase):
    def test_module_level(self):
        for path, tree in trees():
            bound = []
            for at, node in enumerate(tree.body):
                if isinstance(node, ast.Expr):
                    self.assertTrue(at == 0 and isinstance(node.value, ast.Constant), path)
                elif isinstance(node, ast.ImportFrom):
                    bound += [alias.name for alias in node.names]
                elif isinstance(node, ast.Assign):
                    self.assertEqual([type(target) for target in node.targets], [ast.Name], path)
                    bound.append(node.targets[0].id)
                else:
                    self.assertIsInstance(node, (ast.FunctionDef, ast.ClassDef), path)
                    bound.append(node.name)
            self.assertEqual(len(bound), len(set(bound)), path)

    def test_barred_forms(self):
        self.assertEqual([(path, node.lineno) for path, node in nodes(BARRED_NODES) if hasattr(node, "lineno")], [])
        self.assertEqual([path for path, _ in nodes(ast.Div)], [])
        for path, node in nodes((ast.FunctionDef, ast.ClassDef)):
            self.assertEqual(node.decorator_list, [], (path, node.name))
        for path, node in nodes(ast.Constant):
            self.assertNotIsInstance(node.value, (float, complex), path)
            if isinstance(node.value, str):
                self.assertNotIn("%", node.value, path)

    def test_classes_hold_methods_alone(self):
        for path, node in nodes(ast.ClassDef):
            for part in node.body[1:]:
                self.assertIsInstance(part, ast.FunctionDef, (path, node.name))
            names = [part.name for part in node.body[1:]]
            self.assertEqual(len(names), len(set(names)), (path, node.name))
            for name in names:
                self.assertTrue(not name.startswith("__") or name in SPECIAL, (path, name))

    def test_no_attribute_has_the_name_of_a_method(self):
        methods = own_names(ast.FunctionDef)
        for path, node in nodes(ast.Attribute):
            if isinstance(node.ctx, ast.Store):
                self.assertNotIn(node.attr, methods | METHODS, path)

    def test_methods_that_are_called(self):
        known = METHODS | own_names(ast.FunctionDef) | {"__init__"}
        for path, node in nodes(ast.Call):
            if isinstance(node.func, ast.Attribute):
                self.assertIn(node.func.attr, known, (path, node.lineno))

    def test_builtins_that_are_used_and_names_that_are_given(self):
        pythons = set(dir(builtins))
        for path, node in nodes(ast.Name):
            if isinstance(node.ctx, ast.Load):
                self.assertTrue(node.id in BUILTINS or node.id not in pythons, (path, node.id))
            else:
                self.assertNotIn(node.id, pythons, path)
        for path, node in nodes(ast.arg):
            self.assertNotIn(node.arg, pythons, path)
        for path, tree in trees():
            for node in tree.body:
                if isinstance(node, (ast.FunctionDef, ast.ClassDef)):
                    self.assertNotIn(node.name, pythons, path)

    def test_no_local_name_is_that_of_a_class_or_an_import(self):
        for path, tree in trees():
            taken = {node.name for node in ast.walk(tree) if isinstance(node, ast.ClassDef)}
            taken |= {alias.name for node in ast.walk(tree) if isinstance(node, ast.ImportFrom) for alias in node.names}
            for node in ast.walk(tree):
                if isinstance(node, ast.arg):
                    self.assertNotIn(node.arg, taken, path)
                if isinstance(node, ast.Name) and isinstance(node.ctx, ast.Store):
                    self.assertNotIn(node.id, taken, path)

    def test_pythons_own_errors_are_not_caught(self):
        for path, node in nodes(ast.ExceptHandler):
            caught = node.type.elts if isinstance(node.type, ast.Tuple) else [node.type]
            for kind in caught:
                self.assertNotIn(kind.id, dir(builtins), path)

    def test_errors_are_made_on_the_spot(self):
        for path, node in nodes(ast.Raise):
            self.assertTrue(node.exc is None or isinstance(node.exc, ast.Call), (path, node.lineno))

    def test_is_stands_beside_none_and_truths_alone(self):
        for path, node in nodes(ast.Compare):
            for sign, side in zip(node.ops, node.comparators):
                if isinstance(sign, (ast.Is, ast.IsNot)):
                    self.assertIsInstance(side, ast.Constant, (path, node.lineno))

    def test_barred_words(self):
        for path, tree in trees():
            for node in ast.walk(tree):
                for name in ("id", "attr", "arg", "name"):
                    word = getattr(node, name, None)
                    if isinstance(word, str):
                        self.assertIsNone(BARRED_WORDS.search(word), (path, word))


if __name__ == "__main__":
    unittest.main()
