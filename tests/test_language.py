"""A part of the rules of LANGUAGE.md: those easiest to read off the code."""

import ast
import builtins
import pathlib
import re
import unittest

PACKAGE = pathlib.Path(__file__).resolve().parent.parent / "turnsums"
FILES = sorted(PACKAGE.rglob("*.py"))

# L8, without chr (L27), print and bytes (L7).
BUILTINS = set(
    "len range enumerate zip min max sum abs sorted reversed int str bool list tuple dict set frozenset isinstance"
    " ord repr any all divmod iter next super property staticmethod classmethod Exception ValueError TypeError"
    " KeyError IndexError LookupError ZeroDivisionError ArithmeticError OverflowError RuntimeError"
    " NotImplementedError AttributeError StopIteration NotImplemented".split()
)
# L17: words that occur nowhere, comments and strings included.
WORDS = (
    "type typing typing_extensions enum Enum IntEnum StrEnum Flag IntFlag Generic Protocol ABC ABCMeta namedtuple"
    " NamedTuple TypedDict TYPE_CHECKING abstractmethod"
).split()
# L17: names that are not used.
NAMES = set(
    "register mro elements open input version_info with_traceback add_note attrgetter breakpoint builtins compile"
    " copyright credits delattr dir eval exec exit gc getattr globals hasattr help id importlib license locals"
    " methodcaller os quit setattr type vars sys".split()
)
# L5.
DOUBLE = set("__init__ __eq__ __repr__ __str__ __len__ __enter__ __exit__ __call__ __iter__".split())
# L25, both lists.
METHODS = set(
    "append clear copy count endswith extend find get index insert isalnum isalpha isdigit islower isspace isupper"
    " items join keys ljust lower lstrip partition pop remove replace reverse rfind rjust rpartition rsplit rstrip"
    " setdefault split splitlines startswith strip update upper values zfill bit_length title capitalize swapcase"
    " casefold center expandtabs removeprefix removesuffix rindex isascii isdecimal isnumeric istitle isidentifier"
    " isprintable translate add discard".split()
)
BARRED = (
    ast.Global, ast.AsyncFunctionDef, ast.AsyncFor, ast.AsyncWith, ast.Await, ast.Import, ast.Div, ast.MatMult,
)


def bound_names(tree):
    """Every name that a file gives to something."""
    for node in ast.walk(tree):
        if isinstance(node, ast.Name) and isinstance(node.ctx, ast.Store):
            yield node.id
        elif isinstance(node, ast.arg):
            yield node.arg
        elif isinstance(node, (ast.FunctionDef, ast.ClassDef)):
            yield node.name
        elif isinstance(node, ast.Attribute) and isinstance(node.ctx, ast.Store):
            yield node.attr


class Language(unittest.TestCase):
    def setUp(self):
        self.texts = {path: path.read_text(encoding="utf-8") for path in FILES}
        self.trees = {path: ast.parse(text) for path, text in self.texts.items()}

    def nodes(self, *kinds):
        for path, tree in self.trees.items():
            for node in ast.walk(tree):
                if isinstance(node, kinds):
                    yield f"{path.name}:{getattr(node, 'lineno', 0)}", node

    def test_files(self):
        self.assertIn(PACKAGE / "__init__.py", FILES)
        for path in PACKAGE.rglob("*"):
            if "__pycache__" not in path.parts:
                self.assertRegex(path.name, r"^(__init__|__main__|[a-z][a-z0-9_]*)\.py$")

    def test_sizes_and_signs(self):
        for path, text in self.texts.items():
            self.assertRegex(text, r"\A[ -~\n]*\Z", path)
            self.assertLessEqual(len(text.splitlines()), 400, path)
            for line in text.splitlines():
                self.assertLessEqual(len(line), 120, (path, line))
        for where, node in self.nodes(ast.FunctionDef):
            self.assertLessEqual(node.end_lineno - node.lineno + 1, 40, where)

    def test_words(self):
        for path, text in self.texts.items():
            for word in WORDS:
                self.assertIsNone(re.search(rf"\b{word}\b", text), (path, word))
            for word in ("dataclass", "overload", "contextmanager"):
                self.assertNotIn(word, text, path)

    def test_imports(self):
        for where, node in self.nodes(ast.ImportFrom):
            self.assertEqual(node.level, 0, where)
            self.assertRegex(node.module, r"^turnsums\.[a-z]+$", where)
            defined = self.trees[PACKAGE / (node.module.split(".")[1] + ".py")].body
            names = [part.name for part in defined if isinstance(part, (ast.FunctionDef, ast.ClassDef))]
            names += [part.targets[0].id for part in defined if isinstance(part, ast.Assign)]
            for alias in node.names:
                self.assertIn(alias.name, names, where)
        for path, tree in self.trees.items():
            rows = [isinstance(part, ast.ImportFrom) for part in tree.body[1:]]
            self.assertEqual(rows, sorted(rows, reverse=True), path)

    def test_no_round_of_imports(self):
        seen = {}
        for path, tree in self.trees.items():
            seen[path.stem] = {node.module.split(".")[1] for node in ast.walk(tree) if isinstance(node, ast.ImportFrom)}
        while seen:
            free = [name for name in seen if not seen[name] & set(seen)]
            self.assertTrue(free, seen)
            for name in free:
                del seen[name]

    def test_module_level(self):
        for path, tree in self.trees.items():
            self.assertTrue(ast.get_docstring(tree), path)
            for part in tree.body[1:]:
                self.assertIsInstance(part, (ast.ImportFrom, ast.FunctionDef, ast.ClassDef, ast.Assign), path)
                if isinstance(part, ast.Assign):
                    self.assertEqual(len(part.targets), 1, path)
            names = [name for part in tree.body for name in top_names(part)]
            self.assertEqual(len(names), len(set(names)), path)

    def test_statements_and_signs(self):
        for where, node in self.nodes(*BARRED):
            self.fail((where, ast.dump(node)))
        for where, node in self.nodes(ast.Constant):
            self.assertNotIsInstance(node.value, (float, complex), where)
            if isinstance(node.value, str):
                self.assertNotIn("%", node.value, where)
        for where, node in self.nodes(ast.BinOp, ast.AugAssign):
            if isinstance(node.op, ast.Pow):
                self.assertIsInstance(node, ast.BinOp, where)
                self.assertIsInstance(node.right, ast.Constant, where)
                self.assertTrue(0 <= node.right.value <= 64, where)
        for where, node in self.nodes(ast.Compare):
            for sign, right in zip(node.ops, node.comparators):
                if isinstance(sign, (ast.Is, ast.IsNot)):
                    self.assertIsInstance(right, ast.Constant, where)
                    self.assertIn(right.value, (None, True, False), where)

    def test_names(self):
        for path, tree in self.trees.items():
            for name in bound_names(tree):
                if name not in DOUBLE:
                    self.assertRegex(name, r"^[A-Za-z][A-Za-z0-9_]*$", path)
                self.assertNotIn(name, NAMES, path)
            taken = {part.name for part in tree.body if isinstance(part, ast.ClassDef)}
            taken |= {alias.name for part in tree.body if isinstance(part, ast.ImportFrom) for alias in part.names}
            for node in ast.walk(tree):
                if isinstance(node, ast.Name) and isinstance(node.ctx, ast.Store):
                    self.assertNotIn(node.id, taken, path)
                    self.assertFalse(hasattr(builtins, node.id), (path, node.id))
                if isinstance(node, ast.arg):
                    self.assertNotIn(node.arg, taken, path)
                    self.assertFalse(hasattr(builtins, node.arg), (path, node.arg))

    def test_builtins(self):
        for path, tree in self.trees.items():
            own = set(bound_names(tree))
            own |= {alias.name for part in tree.body if isinstance(part, ast.ImportFrom) for alias in part.names}
            for node in ast.walk(tree):
                if isinstance(node, ast.Name) and node.id not in own:
                    self.assertIn(node.id, BUILTINS, (path, node.lineno))

    def test_functions(self):
        for where, node in self.nodes(ast.FunctionDef):
            self.assertFalse(node.args.posonlyargs, where)
            for decorator in node.decorator_list:
                shown = ast.unparse(decorator)
                self.assertRegex(shown, r"^(property|staticmethod|classmethod|\w+\.setter)$", where)
        for where, node in self.nodes(ast.ClassDef):
            self.assertFalse(node.decorator_list, where)

    def test_no_generator_expression_beside_an_eq(self):
        for where, node in self.nodes(ast.Call):
            if isinstance(node.func, ast.Name) and node.func.id in ("any", "all", "min", "max", "sum", "sorted"):
                for told in node.args:
                    self.assertNotIsInstance(told, ast.GeneratorExp, where)

    def test_attributes(self):
        methods = {part.name for _, node in self.nodes(ast.ClassDef) for part in node.body
                   if isinstance(part, ast.FunctionDef)}
        stored = {node.attr for _, node in self.nodes(ast.Attribute) if isinstance(node.ctx, ast.Store)}
        self.assertFalse(methods & stored)
        for where, node in self.nodes(ast.Attribute):
            self.assertIn(node.attr, methods | stored | METHODS, where)

    def test_iterated_at_once(self):
        for where, node in self.nodes(ast.Assign, ast.Return):
            call = node.value
            if isinstance(call, ast.Call):
                name = getattr(call.func, "id", getattr(call.func, "attr", None))
                self.assertNotIn(name, ("range", "zip", "enumerate", "reversed", "items", "keys", "values"), where)

    def test_equality_in_the_plain_form(self):
        for where, node in self.nodes(ast.FunctionDef):
            if node.name == "__eq__":
                self.assertRegex(ast.unparse(node.body[-1]), r"^return isinstance\(other, \w+\) and ", where)


    def test_finally_in_its_plain_form(self):
        for where, node in self.nodes(ast.Try):
            for part in node.finalbody:
                shown = ast.unparse(part)
                self.assertRegex(shown, r"^(pass|\w+(\.\w+)* -= \d+|\w+(\.\w+)*\.append\(\([\w', ]*\)\))$", where)

    def test_len_in_its_plain_form(self):
        for where, node in self.nodes(ast.FunctionDef):
            if node.name == "__len__":
                self.assertRegex(ast.unparse(node.body[-1]), r"^return len\(self\.\w+\)$", where)


def top_names(part):
    if isinstance(part, ast.ImportFrom):
        return [alias.asname or alias.name for alias in part.names]
    if isinstance(part, (ast.FunctionDef, ast.ClassDef)):
        return [part.name]
    if isinstance(part, ast.Assign):
        return [part.targets[0].id]
    return []


if __name__ == "__main__":
    unittest.main()
