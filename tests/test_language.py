"""Checks of ../shared/LANGUAGE.md that can be made by reading the files of the package."""

import ast
import builtins
import io
import re
import tokenize
import unittest
from pathlib import Path

PACKAGE = Path(__file__).resolve().parent.parent / "fieldlots"
FILES = sorted(PACKAGE.rglob("*.py"))
TREES = {path: ast.parse(path.read_text(encoding="utf-8")) for path in FILES}

LIBRARY = {
    "heapq": {"heappush", "heappop", "heapify", "heapreplace", "heappushpop"},
    "math": {"gcd", "lcm", "isqrt", "comb", "perm", "factorial"},
    # Blends and plans are iterated over and have a length: no product, combinations or permutations beside them.
    "itertools": {"chain", "accumulate", "pairwise", "islice", "zip_longest"},
    "collections": {"defaultdict"},
}
BUILTINS = set((
    "len range enumerate zip min max sum abs sorted reversed int str bool bytes list tuple dict set isinstance ord repr "
    "any all divmod pow getattr hasattr setattr map iter next super property staticmethod classmethod "
    "Exception ValueError TypeError KeyError IndexError LookupError ZeroDivisionError ArithmeticError OverflowError "
    "RuntimeError NotImplementedError AttributeError StopIteration NotImplemented").split())
METHODS = set((
    "init eq repr str len enter exit call iter lt le gt ge ne add sub mul floordiv mod pow and or xor lshift rshift "
    "radd rsub rmul rfloordiv rmod rand ror rxor rlshift rrshift iadd isub imul ifloordiv imod iand ior ixor "
    "neg pos invert abs bool contains getitem setitem").split())
# Of the methods of strings, lists and dicts, those that the package takes.
BUILTIN_METHODS = set("append count extend get index insert items join partition pop removeprefix split startswith".split())
# Attributes that are called, since a line is.
LINES = {"floor_one", "floor_two"}
DECORATORS = {"property", "staticmethod", "classmethod", "setter"}
NEVER_NAMES = set((
    "register mro elements open input law version_info with_traceback add_note attrgetter breakpoint builtins compile "
    "copyright credits delattr dir eval exec exit gc globals help id importlib license locals methodcaller os quit type "
    "vars sys").split())
NEVER_WORDS = ("type typing typing_extensions enum Enum IntEnum StrEnum Flag IntFlag Generic Protocol ABC ABCMeta "
               "namedtuple NamedTuple TypedDict TYPE_CHECKING abstractmethod").split()
BARRED = (ast.Global, ast.AsyncFunctionDef, ast.AsyncFor, ast.AsyncWith, ast.Await, ast.Div, ast.GeneratorExp,
          ast.AnnAssign)


def nodes(*kinds):
    for path, tree in TREES.items():
        for node in ast.walk(tree):
            if isinstance(node, kinds):
                yield f"{path.name}:{getattr(node, 'lineno', 0)}", node


def defined(tree):
    names = {node.name for node in tree.body if isinstance(node, (ast.FunctionDef, ast.ClassDef))}
    return names | {node.targets[0].id for node in tree.body if isinstance(node, ast.Assign)}


def imported(tree):
    return {alias.name for node in tree.body if isinstance(node, ast.ImportFrom) for alias in node.names}


def bound(tree):
    """Names of parameters, variables, functions, classes and imports, with their lines."""
    for node in ast.walk(tree):
        if isinstance(node, ast.arg):
            yield node.arg, node.lineno
        elif isinstance(node, ast.Name) and isinstance(node.ctx, ast.Store):
            yield node.id, node.lineno


def is_plain_number(node):
    if isinstance(node, ast.Call):
        return isinstance(node.func, ast.Name) and node.func.id in ("int", "len", "ord", "str")
    return isinstance(node, ast.Constant) or isinstance(node, ast.UnaryOp) and is_plain_number(node.operand)


class Files(unittest.TestCase):
    def test_folder(self):
        self.assertTrue(FILES)
        self.assertLessEqual(len(FILES), 100)
        for path in PACKAGE.rglob("*"):
            if "__pycache__" not in path.parts:
                self.assertRegex(path.name, r"^(__init__|__main__|[a-z][a-z0-9_]*)\.py$")
                self.assertNotRegex(path.name, r"^(law_|test|site|conftest|sitecustomize|usercustomize)")
                self.assertNotIn(path.stem, dir(builtins))

    def test_characters_and_sizes(self):
        for path in FILES:
            rows = path.read_text(encoding="utf-8").split("\n")
            self.assertLessEqual(len(rows), 400, path.name)
            for at, row in enumerate(rows, start=1):
                self.assertRegex(row, r"^[ -~]{0,120}$", f"{path.name}:{at}")
        for place, node in nodes(ast.FunctionDef):
            self.assertLessEqual(node.end_lineno - node.lineno + 1, 40, place)

    def test_words_and_strings(self):
        for path in FILES:
            documented = {text.lineno: text for text in self.docstrings(TREES[path])}
            for token in tokenize.generate_tokens(io.StringIO(path.read_text(encoding="utf-8")).readline):
                self.assertNotIn("_wall", token.string)
                if token.type == tokenize.COMMENT or token.start[0] in documented and token.type == tokenize.STRING:
                    continue
                for word in re.findall(r"\w+", token.string):
                    self.assertNotIn(word, NEVER_WORDS, f"{path.name}:{token.start[0]}")
        for place, node in nodes(ast.Constant):
            self.assertNotIsInstance(node.value, (float, complex), place)
            if isinstance(node.value, str):
                self.assertNotIn("%", node.value, place)
                self.assertNotIn("\\", node.value, place)

    def docstrings(self, tree):
        for node in ast.walk(tree):
            if isinstance(node, (ast.Module, ast.ClassDef, ast.FunctionDef)) and ast.get_docstring(node):
                yield node.body[0].value


class Names(unittest.TestCase):
    def test_imports(self):
        for place, node in nodes(ast.Import, ast.ImportFrom):
            self.assertIsInstance(node, ast.ImportFrom, place)
            self.assertEqual(node.level, 0, place)
            for alias in node.names:
                self.assertIsNone(alias.asname, place)
                if node.module in LIBRARY:
                    self.assertIn(alias.name, LIBRARY[node.module], place)
                else:
                    folder, name = node.module.split(".")
                    self.assertEqual(folder, PACKAGE.name, place)
                    self.assertIn(alias.name, defined(TREES[PACKAGE / f"{name}.py"]), place)

    def test_no_circles_of_imports(self):
        needs = {}
        for path, tree in TREES.items():
            modules = [node.module for node in tree.body if isinstance(node, ast.ImportFrom)]
            needs[path.stem] = {module.split(".")[1] for module in modules if module not in LIBRARY}
        while needs:
            free = [name for name in needs if not needs[name] & set(needs)]
            self.assertTrue(free, needs)
            for name in free:
                del needs[name]

    def test_bound_names(self):
        for path, tree in TREES.items():
            classes = {node.name for node in ast.walk(tree) if isinstance(node, ast.ClassDef)}
            for name, line in bound(tree):
                place = f"{path.name}:{line} {name}"
                self.assertNotIn(name, classes | imported(tree), place)
                self.assertNotIn(name, dir(builtins), place)
                self.assertNotIn(name, NEVER_NAMES, place)
                self.assertFalse(name.startswith("__"), place)

    def test_builtins(self):
        for place, node in nodes(ast.Name):
            if isinstance(node.ctx, ast.Load) and node.id in dir(builtins):
                self.assertIn(node.id, BUILTINS, place)

    def test_blank_name_is_never_read(self):
        for place, node in nodes(ast.Name):
            self.assertFalse(node.id == "_" and isinstance(node.ctx, ast.Load), place)


class Statements(unittest.TestCase):
    def test_module_level(self):
        for path, tree in TREES.items():
            for at, node in enumerate(tree.body):
                plain = isinstance(node, (ast.ImportFrom, ast.FunctionDef, ast.ClassDef, ast.Assign))
                docstring = at == 0 and isinstance(node, ast.Expr) and isinstance(node.value, ast.Constant)
                self.assertTrue(plain or docstring, f"{path.name}:{node.lineno}")

    def test_barred_nodes(self):
        for place, node in nodes(*BARRED):
            self.fail(f"{place} {type(node).__name__}")

    def test_in_place_signs(self):
        # They would meet the reflected and in-place methods of the package's classes.
        for place, node in nodes(ast.AugAssign):
            self.fail(f"{place}: an in-place sign")

    def test_what_the_library_gives_is_only_called(self):
        for path, tree in TREES.items():
            given = {alias.name for node in tree.body if isinstance(node, ast.ImportFrom) and node.module in LIBRARY
                     for alias in node.names}
            called = {node.func for node in ast.walk(tree) if isinstance(node, ast.Call) and not node.keywords}
            for node in ast.walk(tree):
                if isinstance(node, ast.Name) and node.id in given:
                    self.assertIn(node, called, f"{path.name}:{node.lineno}")

    def test_methods_that_are_called(self):
        own = {node.name for _, node in nodes(ast.FunctionDef)}
        for place, node in nodes(ast.Call):
            if isinstance(node.func, ast.Attribute):
                self.assertTrue(node.func.attr in own | BUILTIN_METHODS | LINES, f"{place} {node.func.attr}")

    def test_errors_are_made_where_they_are_raised(self):
        for place, node in nodes(ast.Raise):
            self.assertIsInstance(node.exc, ast.Call, place)
            self.assertIsInstance(node.exc.func, ast.Name, place)
            self.assertTrue(node.cause is None or isinstance(node.cause, ast.Constant) and node.cause.value is None, place)

    def test_only_own_errors_are_caught(self):
        errors = {node.name for node in TREES[PACKAGE / "errors.py"].body if isinstance(node, ast.ClassDef)}
        for place, node in nodes(ast.ExceptHandler):
            self.assertIn(node.type.id, errors, place)
            self.assertIsNone(node.name, place)

    def test_is_stands_before_a_constant(self):
        for place, node in nodes(ast.Compare):
            for sign, side in zip(node.ops, node.comparators):
                if isinstance(sign, (ast.Is, ast.IsNot)):
                    self.assertIsInstance(side, ast.Constant, place)

    def test_generators_have_their_own_names(self):
        functions = [(place, node) for place, node in nodes(ast.FunctionDef)]
        attributes = {node.attr for _, node in nodes(ast.Attribute) if isinstance(node.ctx, ast.Store)}
        for place, node in functions:
            if any(isinstance(part, (ast.Yield, ast.YieldFrom)) for part in ast.walk(node)):
                named = [other for _, other in functions if other.name == node.name]
                self.assertEqual(len(named), 1, place)
                self.assertNotIn(node.name, attributes, place)

    def test_generators_are_iterated_at_once(self):
        makers = {node.name for _, node in nodes(ast.FunctionDef)
                  if any(isinstance(part, (ast.Yield, ast.YieldFrom)) for part in ast.walk(node))}
        taken = set()
        for _, node in nodes(ast.For, ast.comprehension):
            taken.add(node.iter)
        for _, node in nodes(ast.YieldFrom):
            taken.add(node.value)
        for _, node in nodes(ast.Call):
            if isinstance(node.func, ast.Name) and node.func.id in ("list", "tuple"):
                taken.update(node.args)
        for place, node in nodes(ast.Call):
            name = getattr(node.func, "id", getattr(node.func, "attr", None))
            if name in makers:
                self.assertIn(node, taken, place)
                for arg in node.args:
                    self.assertIsInstance(arg, (ast.Name, ast.Attribute, ast.Constant), place)

    def test_powers(self):
        for place, node in nodes(ast.Pow):
            self.fail(f"{place}: a power, take a loop")

    def test_sorted_min_and_max_take_plain_numbers(self):
        for place, node in nodes(ast.Call):
            if isinstance(node.func, ast.Name) and node.func.id in ("sorted", "min", "max"):
                if len(node.args) > 1:
                    self.assertTrue(any(is_plain_number(arg) for arg in node.args), place)
                else:
                    self.assertIsInstance(node.args[0], ast.ListComp, place)
                    self.assertTrue(is_plain_number(node.args[0].elt), place)

    def test_decorators(self):
        for place, node in nodes(ast.FunctionDef):
            for mark in node.decorator_list:
                self.assertIn(mark.id if isinstance(mark, ast.Name) else mark.attr, DECORATORS, place)


class Classes(unittest.TestCase):
    def methods(self, node):
        return {row.name for row in node.body if isinstance(row, ast.FunctionDef)}

    def attributes(self, node):
        return {part.attr for part in ast.walk(node) if isinstance(part, ast.Attribute)
                and isinstance(part.ctx, ast.Store) and isinstance(part.value, ast.Name) and part.value.id == "self"}

    def test_double_underscore_methods(self):
        for place, node in nodes(ast.FunctionDef):
            if node.name.startswith("__"):
                self.assertIn(node.name.strip("_"), METHODS, place)

    def test_methods_and_attributes_have_their_own_names(self):
        methods, attributes = set(), set()
        for place, node in nodes(ast.ClassDef):
            self.assertFalse(node.decorator_list, place)
            methods |= self.methods(node)
            attributes |= self.attributes(node)
        self.assertEqual(methods & attributes, set())

    def test_class_values_are_plain_and_stay(self):
        stored = {node.attr for _, node in nodes(ast.Attribute) if not isinstance(node.ctx, ast.Load)}
        for place, node in nodes(ast.ClassDef):
            for row in node.body:
                if isinstance(row, ast.Assign):
                    self.assertIsInstance(row.value, ast.Constant, place)
                    self.assertNotIn(row.targets[0].id, stored | self.methods(node), place)
                else:
                    self.assertIsInstance(row, (ast.FunctionDef, ast.Expr), place)

    def test_what_has_items_has_its_iteration(self):
        for place, node in nodes(ast.ClassDef):
            if "__getitem__" in self.methods(node):
                self.assertIn("__iter__", self.methods(node), place)

    def test_contexts_are_left_by_assignments_alone(self):
        for place, node in nodes(ast.FunctionDef):
            if node.name == "__exit__":
                for row in node.body:
                    self.assertIsInstance(row, ast.Assign, place)
                    self.assertIsInstance(row.value, (ast.Attribute, ast.Name), place)

    def test_operators_change_nothing(self):
        for place, node in nodes(ast.ClassDef):
            for row in node.body:
                if isinstance(row, ast.FunctionDef) and row.name.startswith("__") and row.name not in (
                        "__init__", "__call__", "__setitem__", "__enter__", "__exit__") and row.name[2] != "i":
                    for part in ast.walk(row):
                        stored = isinstance(part, (ast.Attribute, ast.Subscript)) and not isinstance(part.ctx, ast.Load)
                        self.assertFalse(stored, f"{place} {row.name}")


if __name__ == "__main__":
    unittest.main()
