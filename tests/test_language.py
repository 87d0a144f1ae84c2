"""The form of the package's files, as far as reading them can tell: the rules are numbered as in LANGUAGE.md."""

import ast
import re
import unittest
from pathlib import Path

PACKAGE = Path(__file__).resolve().parent.parent / "royaltree"
FILES = sorted(PACKAGE.glob("*.py"))
TREES = {path.name: ast.parse(path.read_text(encoding="ascii")) for path in FILES}

OWN_NAMES = set(
    "len range enumerate zip min max sum abs sorted reversed int str bool bytes list tuple dict set frozenset"
    " isinstance ord repr any all divmod Exception ValueError TypeError KeyError IndexError LookupError"
    " ZeroDivisionError ArithmeticError OverflowError RuntimeError NotImplementedError AttributeError"
    " StopIteration".split())
OWN_METHODS = set(
    "append clear copy count endswith extend find get index insert isalnum isalpha isdigit islower isspace isupper"
    " items join keys ljust lower lstrip partition pop remove replace reverse rfind rjust rpartition rsplit rstrip"
    " setdefault split splitlines startswith strip update upper values zfill bit_length sort add discard"
    " title capitalize swapcase casefold center expandtabs removeprefix removesuffix rindex isascii isdecimal"
    " isnumeric istitle isidentifier isprintable".split())
WORDS_NOWHERE = set(
    "type typing typing_extensions enum Enum IntEnum StrEnum Flag IntFlag Generic Protocol ABC ABCMeta namedtuple"
    " NamedTuple TypedDict TYPE_CHECKING abstractmethod".split())
NAMES_NOWHERE = set(
    "register mro elements open input version_info with_traceback add_note attrgetter breakpoint builtins compile"
    " copyright credits delattr dir eval exec exit gc getattr globals hasattr help id importlib license locals"
    " methodcaller os quit setattr super vars sys chr".split())
FORMS_NOWHERE = (
    ast.With, ast.Match, ast.Global, ast.Nonlocal, ast.Yield, ast.YieldFrom, ast.Await, ast.AsyncFor, ast.AsyncWith,
    ast.AsyncFunctionDef, ast.GeneratorExp, ast.NamedExpr, ast.Div, ast.MatMult, ast.Import, ast.AnnAssign)


def nodes_of(*kinds):
    for name, tree in TREES.items():
        for node in ast.walk(tree):
            if isinstance(node, kinds):
                yield name, node


def bound_names(tree):
    """Every name that a file gives somewhere: by a def, a class, an import, a parameter or a value."""
    names = set()
    for node in ast.walk(tree):
        if isinstance(node, (ast.FunctionDef, ast.ClassDef)):
            names.add(node.name)
        elif isinstance(node, ast.arg):
            names.add(node.arg)
        elif isinstance(node, ast.ImportFrom):
            names.update(alias.asname or alias.name for alias in node.names)
        elif isinstance(node, ast.Name) and isinstance(node.ctx, ast.Store):
            names.add(node.id)
        elif isinstance(node, ast.ExceptHandler) and node.name:
            names.add(node.name)
    return names


class TestFiles(unittest.TestCase):
    def test_the_folder_holds_plain_files_alone(self):
        inside = [path for path in PACKAGE.iterdir() if path.name != "__pycache__"]
        self.assertEqual(sorted(inside), FILES)
        self.assertIn("__init__.py", TREES)
        for path in FILES:
            self.assertRegex(path.name, r"^[a-z0-9_]+\.py$")

    def test_sizes_and_signs(self):
        for path in FILES:
            text = path.read_text(encoding="ascii")
            self.assertRegex(text, r"\A[\n -~]*\Z")
            rows = text.splitlines()
            self.assertLessEqual(len(rows), 400, path.name)
            self.assertLessEqual(max(map(len, rows), default=0), 120, path.name)
        for name, node in nodes_of(ast.FunctionDef):
            self.assertLessEqual(node.end_lineno - node.lineno + 1, 40, (name, node.name))

    def test_words_that_stand_nowhere(self):
        for path in FILES:
            text = path.read_text(encoding="ascii")
            self.assertEqual(WORDS_NOWHERE & set(re.findall(r"\w+", text)), set(), path.name)
            self.assertNotRegex(text, "dataclass|overload|contextmanager")

    def test_texts(self):
        for name, node in nodes_of(ast.Constant):
            if isinstance(node.value, str):
                self.assertNotIn("%", node.value, name)
            self.assertNotIsInstance(node.value, (float, complex))


class TestForms(unittest.TestCase):
    def test_forms_that_stand_nowhere(self):
        self.assertEqual([(name, node.lineno) for name, node in nodes_of(*FORMS_NOWHERE)], [])

    def test_functions_are_plain(self):
        for name, node in nodes_of(ast.FunctionDef, ast.ClassDef):
            self.assertEqual(node.decorator_list, [], name)
        for name, node in nodes_of(ast.arguments):
            self.assertIsNone(node.vararg or node.kwarg, name)
            self.assertEqual(node.posonlyargs, [], name)

    def test_imports_are_the_packages_own_and_draw_in_no_ring(self):
        draws = {name: set() for name in TREES}
        for name, node in nodes_of(ast.ImportFrom):
            self.assertEqual(node.level, 0)
            self.assertTrue(node.module.startswith("royaltree."), (name, node.module))
            draws[name].update((node.module.removeprefix("royaltree.") + ".py", "__init__.py"))
            for alias in node.names:
                made = TREES[node.module.removeprefix("royaltree.") + ".py"].body
                defined = {row.name for row in made if isinstance(row, (ast.FunctionDef, ast.ClassDef))}
                defined |= {row.targets[0].id for row in made if isinstance(row, ast.Assign)}
                self.assertIn(alias.name, defined, name)
        while draws:
            free = [name for name in draws if not draws[name] & set(draws)]
            self.assertNotEqual(free, [], draws)
            for name in free:
                del draws[name]

    def test_a_files_top(self):
        for name, tree in TREES.items():
            given = []
            for at, row in enumerate(tree.body):
                if isinstance(row, ast.Expr):
                    self.assertTrue(at == 0 and isinstance(row.value.value, str), name)
                elif isinstance(row, ast.ImportFrom):
                    given += [alias.name for alias in row.names]
                elif isinstance(row, ast.Assign):
                    given += [target.id for target in row.targets]
                    for node in ast.walk(row.value):
                        self.assertNotIsInstance(node, (ast.Call, ast.Lambda, ast.Set, ast.ListComp, ast.DictComp), name)
                        if node != row.value:
                            self.assertNotIsInstance(node, (ast.List, ast.Dict), name)
                        if isinstance(node, ast.Name):
                            self.assertIn(node.id, given, name)
                else:
                    self.assertIsInstance(row, (ast.FunctionDef, ast.ClassDef), name)
                    given.append(row.name)
            self.assertEqual(len(given), len(set(given)), name)

    def test_sets_are_not_walked(self):
        for name, node in nodes_of(ast.For, ast.comprehension):
            walked = node.iter
            is_set = isinstance(walked, (ast.Set, ast.SetComp))
            is_set |= isinstance(walked, ast.Call) and getattr(walked.func, "id", "") in ("set", "frozenset")
            self.assertFalse(is_set, name)

    def test_errors_are_taken_by_the_programs_own_names(self):
        own = {row.name for row in TREES["errors.py"].body if isinstance(row, ast.ClassDef)}
        for name, node in nodes_of(ast.ExceptHandler):
            self.assertIn(node.type.id, own, name)
        for name, node in nodes_of(ast.Raise):
            self.assertIn(node.exc.func.id, own, name)

    def test_names(self):
        python_names = set(dir(__builtins__) if not isinstance(__builtins__, dict) else __builtins__)
        for name, tree in TREES.items():
            bound = bound_names(tree)
            for word in bound - {"__init__"}:
                self.assertRegex(word, r"^[A-Za-z][A-Za-z0-9_]*$", name)
            self.assertEqual(bound & (python_names | NAMES_NOWHERE), set(), name)
            read = {node.id for node in ast.walk(tree) if isinstance(node, ast.Name)}
            self.assertEqual(read - bound - OWN_NAMES, set(), name)

    def test_classes_and_imports_keep_their_names(self):
        for name, tree in TREES.items():
            drawn = {alias.name for row in tree.body if isinstance(row, ast.ImportFrom) for alias in row.names}
            classes = {row.name for row in tree.body if isinstance(row, ast.ClassDef)}
            given = {node.arg for node in ast.walk(tree) if isinstance(node, ast.arg)}
            given |= {node.id for node in ast.walk(tree)
                      if isinstance(node, ast.Name) and isinstance(node.ctx, ast.Store)}
            given |= {node.name for node in ast.walk(tree) if isinstance(node, ast.FunctionDef)}
            self.assertEqual(given & (drawn | classes), set(), name)

    def test_methods_and_values(self):
        given = {node.attr for name, node in nodes_of(ast.Attribute) if isinstance(node.ctx, ast.Store)}
        methods = {row.name for name, node in nodes_of(ast.ClassDef) for row in node.body
                   if isinstance(row, ast.FunctionDef)}
        self.assertEqual(given & methods, set())
        for name, node in nodes_of(ast.Attribute):
            self.assertIn(node.attr, given | methods | OWN_METHODS, name)
            self.assertNotIn(node.attr, NAMES_NOWHERE, name)

    def test_is_stands_beside_none_true_and_false_alone(self):
        for name, node in nodes_of(ast.Compare):
            for sign, right in zip(node.ops, node.comparators):
                if isinstance(sign, (ast.Is, ast.IsNot)):
                    self.assertIsInstance(right, ast.Constant, name)
                    self.assertIn(right.value, (None, True, False), name)

    def test_exponents_are_written(self):
        for name, node in nodes_of(ast.BinOp):
            if isinstance(node.op, ast.Pow):
                self.assertIsInstance(node.right, ast.Constant, name)
                self.assertTrue(0 <= node.right.value <= 64, name)


if __name__ == "__main__":
    unittest.main()
