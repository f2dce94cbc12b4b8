"""The form of the package: its interface, and the plainest rules for its code (rule numbers in the tests)."""

import ast
import doctest
import pathlib
import re
import unittest

ROOT = pathlib.Path(__file__).resolve().parent.parent
FOLDER = ROOT / "everybase"
FILES = sorted(FOLDER.glob("*.py"))

INTERFACE = {
    "errors": "FigureError InvalidBase InvalidNumber NoFigure InvalidRow InvalidText Stopped InvalidTerm NotWhole "
              "InvalidWorth InvalidCommand NoRow NoPlace NoName",
    "figures": "figures_of number_of turned least greatest total many root figure first last joined mirrored unlike",
    "rows": "Row Test Put If Times Stop Ask Not",
    "programs": "Program Sheet",
    "runs": "run came_to holds",
    "measures": "measures",
    "terms": "Term",
    "bases": "Bases",
    "worths": "Worth",
    "books": "book Book",
    "alike": "alike least_parting partings sure least_breach needless",
    "papers": "paper paper_holds",
    "desk": "Desk",
}
# What stands in the body of a class itself.
METHODS = {
    "Put": "__init__ __eq__ __str__",
    "If": "__init__ __eq__ __str__",
    "Times": "__init__ __eq__ __str__",
    "Stop": "__eq__ __str__",
    "Ask": "__init__ __eq__ __str__",
    "Not": "__init__ __eq__ __str__",
    "Program": "__init__ read without replaced __call__ __len__ __getitem__ __add__ __eq__ __str__",
    "Sheet": "__init__ drop made trial within __len__ __getitem__ __setitem__ __iadd__",
    "Term": "__init__ degree __call__ moved is_whole sure_from __add__ __radd__ __sub__ __rsub__ __mul__ __rmul__ "
            "__pow__ __neg__ __eq__ __str__",
    "Bases": "none every of rest upward lowest size below nth __and__ __or__ __sub__ __xor__ __invert__ __le__ __lt__ "
             "__ge__ __gt__ __eq__ __contains__ __bool__ __str__",
    "Worth": "number base figures bases __call__ turned least greatest total many root figure first last joined common "
             "lesser same less divides mirrored unlike within __add__ __radd__ __sub__ __rsub__ __mul__ __rmul__ "
             "__floordiv__ __rfloordiv__ __mod__ __rmod__ __pow__ __or__ __ror__ __le__ __lt__ __ge__ __gt__ __eq__",
    "Book": "__init__ stops comes where tale __call__ __getitem__ __eq__",
    "Desk": "__init__ say undo __len__",
}
BUILTINS = set(
    "len range enumerate zip min max sum abs sorted reversed int str bool bytes list tuple dict set frozenset "
    "isinstance ord repr any all divmod pow getattr hasattr setattr iter next map super property staticmethod "
    "classmethod object Exception ValueError TypeError KeyError IndexError LookupError ZeroDivisionError "
    "ArithmeticError OverflowError RuntimeError NotImplementedError AttributeError StopIteration "
    "NotImplemented".split()
)
LIBRARY = {"heapq", "math", "itertools", "collections", "__future__"}
BARRED = set(
    "type typing typing_extensions enum Enum IntEnum StrEnum Flag IntFlag Generic Protocol ABC ABCMeta namedtuple "
    "NamedTuple TypedDict TYPE_CHECKING abstractmethod".split()
)
TOP = (ast.Import, ast.ImportFrom, ast.FunctionDef, ast.ClassDef, ast.Assign)
REFUSED = (
    ast.Global, ast.AsyncFunctionDef, ast.AsyncFor, ast.AsyncWith, ast.Await, ast.Div, ast.MatMult,
)


def trees():
    return [(path, ast.parse(path.read_text())) for path in FILES]


def bound_at_top(tree):
    """The names of the functions, classes and values that a file defines itself."""
    found = []
    for node in tree.body:
        if isinstance(node, (ast.FunctionDef, ast.ClassDef)):
            found.append(node.name)
        elif isinstance(node, ast.Assign):
            found.extend(target.id for target in node.targets)
    return found


def imports(tree):
    return [node for node in ast.walk(tree) if isinstance(node, (ast.Import, ast.ImportFrom))]


def names_in(tree):
    """All names that are bound somewhere in a file."""
    found = set(bound_at_top(tree))
    for node in ast.walk(tree):
        if isinstance(node, ast.Name) and not isinstance(node.ctx, ast.Load):
            found.add(node.id)
        elif isinstance(node, ast.arg):
            found.add(node.arg)
        elif isinstance(node, (ast.FunctionDef, ast.ClassDef)):
            found.add(node.name)
        elif isinstance(node, ast.ImportFrom):
            found.update(alias.asname or alias.name for alias in node.names)
        elif isinstance(node, ast.ExceptHandler) and node.name:
            found.add(node.name)
    return found


class Interface(unittest.TestCase):

    def test_everything_is_defined_in_its_own_file(self):
        for module, names in INTERFACE.items():
            tree = ast.parse((FOLDER / f"{module}.py").read_text())
            defined = [node.name for node in tree.body if isinstance(node, (ast.FunctionDef, ast.ClassDef))]
            for name in names.split():
                self.assertEqual(defined.count(name), 1, f"{module}.{name}")

    def test_methods_stand_in_the_class_itself(self):
        bodies = {node.name: node.body for _, tree in trees() for node in tree.body if isinstance(node, ast.ClassDef)}
        for name, methods in METHODS.items():
            defined = [node.name for node in bodies[name] if isinstance(node, ast.FunctionDef)]
            for method in methods.split():
                self.assertEqual(defined.count(method), 1, f"{name}.{method}")

    def test_init_holds_a_docstring_alone(self):
        tree = ast.parse((FOLDER / "__init__.py").read_text())
        self.assertEqual(len(tree.body), 1)
        self.assertIsNotNone(ast.get_docstring(tree))

    def test_the_examples_of_the_readme(self):
        found = doctest.testfile(str(ROOT / "README.md"), module_relative=False)
        self.assertGreater(found.attempted, 0)
        self.assertEqual(found.failed, 0)


class Rules(unittest.TestCase):

    def test_files(self):
        """L1, L10, L14."""
        for path in FOLDER.iterdir():
            self.assertTrue(path.suffix == ".py" or path.name == "__pycache__", path)
        for path in FILES:
            text = path.read_text()
            self.assertTrue(re.fullmatch("[a-z0-9_]+[.]py", path.name), path)
            self.assertTrue(re.fullmatch("[ -~\n]*", text), path)
            lines = text.splitlines()
            self.assertLessEqual(len(lines), 399, path)
            for line in lines:
                self.assertLessEqual(len(line), 120, path)

    def test_functions_have_at_most_40_lines(self):
        """L10."""
        for path, tree in trees():
            for node in ast.walk(tree):
                if isinstance(node, ast.FunctionDef):
                    self.assertLessEqual(node.end_lineno - node.lineno + 1, 40, (path, node.name))

    def test_imports(self):
        """L2, L16: from the very file that defines the name, and not in a circle."""
        defined = {path.stem: bound_at_top(tree) for path, tree in trees()}
        needs = {}
        for path, tree in trees():
            needs[path.stem] = []
            for node in imports(tree):
                self.assertIsInstance(node, ast.ImportFrom, path)
                if node.module not in LIBRARY:
                    package, module = node.module.split(".")
                    self.assertEqual((package, node.level), ("everybase", 0), path)
                    for alias in node.names:
                        self.assertIn(alias.name, defined[module], path)
                    needs[path.stem].append(module)
        while needs:
            free = [module for module, others in needs.items() if not set(others) & set(needs)]
            self.assertTrue(free, f"these import from each other: {needs}")
            for module in free:
                del needs[module]

    def test_module_level(self):
        """L3, L15."""
        for path, tree in trees():
            for node in tree.body[1 if ast.get_docstring(tree) else 0:]:
                self.assertIsInstance(node, TOP, (path, node.lineno))
            names = bound_at_top(tree)
            self.assertEqual(len(names), len(set(names)), path)

    def test_no_statement_or_sign_that_is_not_allowed(self):
        """L6, L7."""
        for path, tree in trees():
            for node in ast.walk(tree):
                self.assertNotIsInstance(node, REFUSED, (path, getattr(node, "lineno", None)))
                if isinstance(node, ast.Constant):
                    self.assertNotIsInstance(node.value, (float, complex), path)
                    if isinstance(node.value, str):
                        self.assertNotIn("%", node.value, (path, node.lineno))

    def test_no_object_is_iterated_by_its_index(self):
        """L5: a class with an index says that it is not iterable."""
        for path, tree in trees():
            for node in [one for one in tree.body if isinstance(one, ast.ClassDef)]:
                defined = {one.name for one in node.body if isinstance(one, ast.FunctionDef)}
                self.assertTrue("__iter__" in defined or "__getitem__" not in defined, (path, node.name))

    def test_no_name_is_a_method_and_an_attribute_of_one_class(self):
        """L18."""
        for path, tree in trees():
            for node in [one for one in tree.body if isinstance(one, ast.ClassDef)]:
                methods = {one.name for one in node.body if isinstance(one, ast.FunctionDef)}
                stored = {one.attr for one in ast.walk(node)
                          if isinstance(one, ast.Attribute) and isinstance(one.ctx, ast.Store)}
                self.assertFalse(methods & stored, (path, node.name))

    def test_names_of_properties_and_class_methods_are_nothing_else(self):
        """L5."""
        marked, others = set(), set()
        for _, tree in trees():
            for node in ast.walk(tree):
                if isinstance(node, ast.ClassDef):
                    for one in [one for one in node.body if isinstance(one, ast.FunctionDef)]:
                        (marked if one.decorator_list else others).add(one.name)
                elif isinstance(node, ast.Attribute) and isinstance(node.ctx, ast.Store):
                    others.add(node.attr)
        self.assertTrue({"read", "rest", "lowest", "degree"} <= marked)
        self.assertFalse(marked & others)

    def test_what_operators_ask_for(self):
        """L5: as some classes have operators and an order, what is changed, sorted and compared is plain."""
        for path, tree in trees():
            alone = {id(node.value) for node in ast.walk(tree) if isinstance(node, ast.Return)}
            for node in ast.walk(tree):
                self.assertNotIsInstance(node, (ast.AugAssign, ast.GeneratorExp), (path, getattr(node, "lineno", None)))
                if isinstance(node, ast.Name) and node.id == "NotImplemented":
                    self.assertIn(id(node), alone, (path, node.lineno))
                if isinstance(node, ast.Call) and isinstance(node.func, ast.Name) and node.func.id in ("sorted", "min",
                    "max"):
                    self.assertTrue(any(self.is_plain(one) for one in node.args), (path, node.lineno))

    def is_plain(self, node):
        if isinstance(node, ast.ListComp):
            return self.is_plain(node.elt)
        if isinstance(node, ast.Call) and isinstance(node.func, ast.Name):
            return node.func.id in ("int", "str", "len")
        return isinstance(node, ast.Constant) and isinstance(node.value, int)

    def test_nothing_has_the_name_of_a_class_or_an_import_of_its_file(self):
        """L15."""
        for path, tree in trees():
            taken = {one.name for one in tree.body if isinstance(one, ast.ClassDef)}
            taken |= {alias.name for node in imports(tree) for alias in node.names}
            for node in ast.walk(tree):
                if isinstance(node, ast.arg):
                    self.assertNotIn(node.arg, taken, path)
                elif isinstance(node, ast.Name) and isinstance(node.ctx, ast.Store):
                    self.assertNotIn(node.id, taken, path)

    def test_names(self):
        """L8, L15, L17: no other builtin is used, and none has another meaning."""
        for path, tree in trees():
            own = names_in(tree)
            self.assertFalse(own & (BUILTINS | BARRED), path)
            for node in ast.walk(tree):
                if isinstance(node, ast.Name) and isinstance(node.ctx, ast.Load):
                    self.assertIn(node.id, own | BUILTINS, (path, node.lineno))


if __name__ == "__main__":
    unittest.main()
