"""Looks at the files of the package: those rules of LANGUAGE.md that can be told from a file at a glance."""

import ast
import builtins
import pathlib
import re
import unittest

FOLDER = pathlib.Path(__file__).resolve().parent.parent / "givenout"
FILES = sorted(FOLDER.rglob("*.py"))

# Of the builtins of L8 those that the package uses so far, or may use anywhere.
BUILTINS = set("""len range enumerate zip min max sum abs sorted reversed int str bool list tuple dict set isinstance
    ord repr any all divmod super iter ValueError KeyError""".split())
# What may be imported from elsewhere, by L2, of what the package uses.
LIBRARY = {"heapq": ("heappop", "heappush")}
METHODS = set("""append clear copy count endswith extend find get index insert isalnum isalpha isdigit islower isspace
    isupper items join keys ljust lower lstrip partition pop remove replace reverse rfind rjust rpartition rsplit rstrip
    setdefault split splitlines startswith strip update upper values zfill bit_length""".split())
WORDS = re.compile(r"\b(typing|enum|Enum|Generic|Protocol|ABC|namedtuple|NamedTuple|TypedDict|abstractmethod)\b"
                   r"|dataclass|overload|contextmanager|_wall|_WallAttr")
PLAIN = (ast.Constant, ast.List, ast.Tuple, ast.Dict, ast.UnaryOp)


def trees():
    """Each file of the package with its text and its tree."""
    for path in FILES:
        text = path.read_text(encoding="utf-8")
        yield path, text, ast.parse(text)


def nodes(kind):
    """All nodes of this kind, each with a word on where it stands."""
    for path, _, tree in trees():
        for node in ast.walk(tree):
            if isinstance(node, kind):
                yield f"{path.name}:{getattr(node, 'lineno', 0)}", node


class FilesTest(unittest.TestCase):

    def test_names_of_files(self):
        self.assertTrue((FOLDER / "__init__.py").exists())
        for path in FOLDER.rglob("*"):
            if path.name != "__pycache__" and path.suffix != ".pyc":
                self.assertRegex(path.name, r"^[a-z0-9_]+\.py$")

    def test_sizes_and_characters(self):
        for path, text, _ in trees():
            rows = text.split("\n")
            self.assertLessEqual(len(rows) - 1, 399, path.name)
            self.assertTrue(all([len(row) <= 120 for row in rows]), path.name)
            self.assertRegex(text, r"^[ -~\n]*$", path.name)
            self.assertNotRegex(text, WORDS, path.name)

    def test_functions_have_at_most_forty_lines(self):
        for place, node in nodes(ast.FunctionDef):
            self.assertLessEqual(node.end_lineno - node.lineno + 1, 40, place)
            self.assertIsNotNone(ast.get_docstring(node) if not node.name.startswith("__") else "", place)

    def test_strings_have_neither_percent_signs_nor_other_escapes(self):
        for place, node in nodes(ast.Constant):
            if isinstance(node.value, str):
                self.assertNotIn("%", node.value, place)
                self.assertNotRegex(node.value, r"^__.*__$|\._+$", place)
        for path, text, _ in trees():
            self.assertNotRegex(text, r"\\[^nt\\\"']", path.name)


class ModuleTest(unittest.TestCase):

    def test_what_stands_at_module_level(self):
        for path, _, tree in trees():
            bound = []
            for number, node in enumerate(tree.body):
                place = f"{path.name}:{node.lineno}"
                if isinstance(node, ast.Expr):
                    self.assertEqual((number, type(node.value)), (0, ast.Constant), place)
                elif isinstance(node, ast.Assign):
                    self.assertIsInstance(node.value, PLAIN, place)
                    bound.extend([target.id for target in node.targets])
                elif isinstance(node, ast.ImportFrom):
                    bound.extend([alias.asname or alias.name for alias in node.names])
                else:
                    self.assertIsInstance(node, (ast.FunctionDef, ast.ClassDef), place)
                    bound.append(node.name)
            self.assertEqual(len(bound), len(set(bound)), path.name)

    def test_imports_are_from_the_file_that_defines_the_name(self):
        self.assertEqual([place for place, _ in nodes(ast.Import)], [])
        defined = {}
        for path, _, tree in trees():
            names = [node.name for node in tree.body if isinstance(node, (ast.FunctionDef, ast.ClassDef))]
            names += [target.id for node in tree.body if isinstance(node, ast.Assign) for target in node.targets]
            defined[f"givenout.{path.stem}"] = names
        for place, node in nodes(ast.ImportFrom):
            self.assertEqual(node.level, 0, place)
            for alias in node.names:
                self.assertIn(alias.name, LIBRARY.get(node.module) or defined[node.module], place)

    def test_imports_go_in_no_ring(self):
        ahead = {path.stem: [node.module.split(".")[1] for node in tree.body
                             if isinstance(node, ast.ImportFrom) and node.module not in LIBRARY]
                 for path, _, tree in trees()}
        while ahead:
            free = [name for name, needs in ahead.items() if not [need for need in needs if need in ahead]]
            self.assertNotEqual(free, [], ahead)
            ahead = {name: needs for name, needs in ahead.items() if name not in free}

    def test_no_name_has_that_of_an_import_a_class_or_a_builtin(self):
        for path, _, tree in trees():
            taken = set(dir(builtins)) | set([node.name for node in ast.walk(tree) if isinstance(node, ast.ClassDef)])
            for node in tree.body:
                if isinstance(node, ast.ImportFrom):
                    taken |= set([alias.name for alias in node.names])
            for node in ast.walk(tree):
                if isinstance(node, ast.Name) and isinstance(node.ctx, ast.Store):
                    self.assertNotIn(node.id, taken, f"{path.name}:{node.lineno}")
                if isinstance(node, ast.arg):
                    self.assertNotIn(node.arg, taken, f"{path.name}:{node.lineno}")


class ExpressionsTest(unittest.TestCase):

    def test_statements_and_expressions_that_are_not_used(self):
        for place, node in nodes((ast.Global, ast.AsyncFunctionDef, ast.AsyncFor, ast.AsyncWith, ast.Await, ast.Div)):
            self.fail(f"{place}: {type(node).__name__}")
        for place, node in nodes(ast.FunctionDef):
            for decorator in node.decorator_list:
                self.assertRegex(ast.unparse(decorator), r"^(property|\w+\.setter|staticmethod|classmethod)$", place)
        for place, node in nodes(ast.ClassDef):
            self.assertEqual(node.decorator_list, [], place)
        for place, node in nodes(ast.Constant):
            self.assertNotIsInstance(node.value, (float, complex), place)

    def test_is_stands_beside_none_true_and_false(self):
        for place, node in nodes(ast.Compare):
            for sign, right in zip(node.ops, node.comparators):
                if isinstance(sign, (ast.Is, ast.IsNot)):
                    self.assertIn(getattr(right, "value", 0), (None, True, False), place)

    def test_generator_expressions_stand_where_classes_with_equality_let_them(self):
        good = [ast.dump(arg) for _, node in nodes(ast.Call) for arg in node.args
                if getattr(node.func, "id", getattr(node.func, "attr", "")) in ("list", "tuple", "dict", "join")]
        for place, node in nodes(ast.GeneratorExp):
            self.assertIn(ast.dump(node), good, place)

    def test_builtins(self):
        for place, node in nodes(ast.Name):
            if isinstance(node.ctx, ast.Load) and hasattr(builtins, node.id):
                self.assertIn(node.id, BUILTINS, place)

    def test_methods(self):
        own = set([node.name for _, node in nodes(ast.FunctionDef)])
        for place, node in nodes(ast.Call):
            if isinstance(node.func, ast.Attribute):
                self.assertIn(node.func.attr, METHODS | own, place)
                self.assertNotEqual(node.func.attr, "sort", place)

    def test_sets_are_measured_or_sorted_on_the_spot(self):
        good = [node.args[0] for _, node in nodes(ast.Call) if getattr(node.func, "id", "") in ("len", "sorted")]
        for place, node in nodes(ast.Call):
            if getattr(node.func, "id", "") == "set":
                self.assertIn(ast.dump(node), [ast.dump(arg) for arg in good], place)

    def test_what_is_iterated_at_once_is_not_kept(self):
        kept = ("zip", "range", "enumerate", "reversed", "set", "map")
        for place, node in nodes((ast.Assign, ast.Return)):
            if isinstance(node.value, ast.Call):
                self.assertNotIn(getattr(node.value.func, "id", ""), kept, place)

    def test_what_comes_of_the_library_is_only_called(self):
        words = [word for row in LIBRARY.values() for word in row]
        for path, _, tree in trees():
            called = [node.func for node in ast.walk(tree) if isinstance(node, ast.Call)]
            for node in ast.walk(tree):
                if isinstance(node, ast.Name) and node.id in words:
                    self.assertIn(node, called, f"{path.name}:{node.lineno}")

    def test_what_ends_a_with_assigns_only(self):
        for place, node in nodes(ast.FunctionDef):
            if node.name == "__exit__":
                for part in node.body:
                    self.only_assigns(part)
            if node.name == "__iter__":
                self.assertEqual(len(node.body), 1, place)

    def only_assigns(self, node):
        place = ast.unparse(node)
        self.assertIsInstance(node, (ast.Assign, ast.If, ast.Pass), place)
        if isinstance(node, ast.If):
            self.asks_for_none_only(node.test)
            for part in node.body + node.orelse:
                self.only_assigns(part)
        if isinstance(node, ast.Assign):
            for part in [node.value] + node.targets:
                self.assertRegex(ast.unparse(part), r"^[a-z_]+(\.[a-z_]+)?$", place)
                self.assertNotIn(ast.unparse(part), ("kind", "value", "trace"), place)

    # With classes that have an equality, nothing is asked alone there, and nothing is compared with a literal.
    def asks_for_none_only(self, node):
        if isinstance(node, ast.BoolOp):
            for part in node.values:
                self.asks_for_none_only(part)
        elif isinstance(node, ast.UnaryOp):
            self.asks_for_none_only(node.operand)
        else:
            self.assertRegex(ast.unparse(node), r"^[a-z_]+(\.[a-z_]+)? is (not )?None$")

    def test_no_try_has_a_finally(self):
        for place, node in nodes(ast.Try):
            self.assertEqual(node.finalbody, [], place)

    def test_no_name_is_a_method_and_an_attribute_of_one_class(self):
        for place, node in nodes(ast.ClassDef):
            methods = [part.name for part in node.body if isinstance(part, ast.FunctionDef)]
            stored = [part.attr for part in ast.walk(node) if isinstance(part, ast.Attribute)
                      and isinstance(part.ctx, ast.Store) and getattr(part.value, "id", "") == "self"]
            self.assertEqual(set(methods) & set(stored), set(), place)
            self.assertEqual(len(methods), len(set(methods)), place)

    def test_attributes_are_assigned_somewhere(self):
        stored = set([node.attr for _, node in nodes(ast.Attribute) if isinstance(node.ctx, ast.Store)])
        own = set([node.name for _, node in nodes(ast.FunctionDef)])
        for place, node in nodes(ast.Attribute):
            self.assertIn(node.attr, stored | own | METHODS, place)
