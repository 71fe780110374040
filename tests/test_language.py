"""Rules of LANGUAGE.md that a look at the files alone can hold them to."""

import ast
import builtins
import pathlib
import re
import unittest
import warnings

PACKAGE = pathlib.Path(__file__).resolve().parent.parent / "switchrows"
ALLOWED_BUILTINS = set(
    "len range enumerate zip min max sum abs sorted reversed int str bool list tuple dict set isinstance ord repr "
    "any all divmod iter next super property staticmethod classmethod Exception ValueError TypeError KeyError "
    "IndexError LookupError ZeroDivisionError ArithmeticError OverflowError RuntimeError NotImplementedError "
    "NotImplemented bytes object".split()
)
BARRED_WORDS = (
    "type typing typing_extensions enum Enum IntEnum StrEnum Flag IntFlag Generic Protocol ABC ABCMeta namedtuple "
    "NamedTuple TypedDict TYPE_CHECKING abstractmethod"
).split()
BARRED_NAMES = set(
    "register mro elements open input version_info with_traceback add_note eval exec id os sys vars dir exit gc "
    "getattr setattr hasattr globals locals compile help license credits copyright quit".split()
)
# Of the double-underscore methods of L5 the package needs no more.
ALLOWED_DOUBLES = {"__init__"}
ALLOWED_METHODS = set(
    "append clear copy count endswith extend find get index insert isalnum isalpha isdigit islower isspace isupper "
    "items join keys ljust lower lstrip partition pop remove replace reverse rfind rjust rpartition rsplit rstrip "
    "setdefault split splitlines startswith strip update upper values zfill bit_length title capitalize swapcase "
    "casefold center expandtabs removeprefix removesuffix rindex isascii isdecimal isnumeric istitle isidentifier "
    "isprintable translate sort add discard".split()
)
BARRED_NODES = (
    ast.Global, ast.AsyncFunctionDef, ast.AsyncFor, ast.AsyncWith, ast.Await, ast.Import, ast.Div, ast.MatMult,
)


def bound_names(tree):
    """Every name that a file binds anywhere."""
    names = []
    for node in ast.walk(tree):
        if isinstance(node, (ast.FunctionDef, ast.ClassDef)):
            names.append(node.name)
        elif isinstance(node, ast.arg):
            names.append(node.arg)
        elif isinstance(node, ast.Name) and not isinstance(node.ctx, ast.Load):
            names.append(node.id)
        elif isinstance(node, ast.ImportFrom):
            names.extend(alias.asname or alias.name for alias in node.names)
        elif isinstance(node, ast.ExceptHandler) and node.name:
            names.append(node.name)
    return names


class LanguageTest(unittest.TestCase):
    def setUp(self):
        self.texts = {path: path.read_text("utf-8") for path in sorted(PACKAGE.glob("*.py"))}
        self.trees = {path: ast.parse(text) for path, text in self.texts.items()}

    def nodes(self):
        for path, tree in self.trees.items():
            for node in ast.walk(tree):
                yield f"{path.name}:{getattr(node, 'lineno', 0)}", node

    def test_l1_only_plain_files(self):
        self.assertIn(PACKAGE / "__init__.py", self.texts)
        for path in PACKAGE.iterdir():
            if path.name != "__pycache__":
                self.assertRegex(path.name, r"^[a-z_0-9]+\.py$")

    def test_l2_imports_from_the_defining_file(self):
        for at, node in self.nodes():
            if isinstance(node, ast.ImportFrom):
                self.assertEqual(node.level, 0, at)
                self.assertTrue(node.module.startswith("switchrows."), at)
                source = self.trees[PACKAGE / (node.module.split(".")[1] + ".py")]
                defined = [part.name for part in source.body if isinstance(part, (ast.FunctionDef, ast.ClassDef))]
                for part in source.body:
                    if isinstance(part, ast.Assign):
                        defined.append(part.targets[0].id)
                for alias in node.names:
                    self.assertIn(alias.name, defined, at)

    def test_l16_no_imports_in_a_ring(self):
        imported = {path.stem: [] for path in self.trees}
        for path, tree in self.trees.items():
            for node in tree.body:
                if isinstance(node, ast.ImportFrom):
                    imported[path.stem].append(node.module.split(".")[1])
        done = set()
        while len(done) < len(imported):
            ready = [name for name in imported if name not in done and set(imported[name]) <= done]
            self.assertTrue(ready, imported)
            done.update(ready)

    def test_l3_module_level(self):
        kinds = (ast.FunctionDef, ast.ClassDef, ast.Assign, ast.ImportFrom, ast.Expr)
        for path, tree in self.trees.items():
            for node in tree.body:
                self.assertIsInstance(node, kinds, path.name)

    def test_l6_l7_no_barred_nodes(self):
        for at, node in self.nodes():
            self.assertNotIsInstance(node, BARRED_NODES, at)
            if isinstance(node, ast.Constant):
                self.assertNotIsInstance(node.value, (float, complex), at)

    def test_l8_builtins(self):
        for path, tree in self.trees.items():
            bound = set(bound_names(tree))
            for node in ast.walk(tree):
                if isinstance(node, ast.Name) and isinstance(node.ctx, ast.Load) and node.id not in bound:
                    self.assertIn(node.id, ALLOWED_BUILTINS, path.name)

    def test_l10_sizes(self):
        for path, text in self.texts.items():
            lines = text.splitlines()
            self.assertLessEqual(len(lines), 400, path.name)
            self.assertLessEqual(max((len(line) for line in lines), default=0), 120, path.name)
        for at, node in self.nodes():
            if isinstance(node, ast.FunctionDef):
                self.assertLessEqual(node.end_lineno - node.lineno + 1, 40, at)

    def test_l12_l15_l17_names(self):
        for path, tree in self.trees.items():
            for name in bound_names(tree):
                if name in ALLOWED_DOUBLES:
                    continue
                self.assertRegex(name, r"^[A-Za-z][A-Za-z0-9_]*$", path.name)
                self.assertNotIn(name, BARRED_NAMES, path.name)
                self.assertFalse(hasattr(builtins, name), (path.name, name))

    def test_l15_no_local_name_is_a_module_name(self):
        for path, tree in self.trees.items():
            module_names = set()
            for node in tree.body:
                module_names.update(bound_names(node) if isinstance(node, (ast.Assign, ast.ImportFrom)) else [])
                module_names.update([node.name] if isinstance(node, (ast.FunctionDef, ast.ClassDef)) else [])
            for function in ast.walk(tree):
                if isinstance(function, ast.FunctionDef):
                    local = set(bound_names(function)) - {function.name}
                    self.assertFalse(local & module_names, (path.name, function.name))

    def test_l14_l17_signs_and_words(self):
        for path, text in self.texts.items():
            self.assertRegex(text, r"\A[ -~\n]*\Z", path.name)
            for word in BARRED_WORDS:
                self.assertIsNone(re.search(rf"\b{word}\b", text), (path.name, word))
            self.assertIsNone(re.search("dataclass|overload|contextmanager", text), path.name)

    def test_l18_no_name_is_a_method_and_an_attribute(self):
        methods = set()
        attributes = set()
        for at, node in self.nodes():
            if isinstance(node, ast.ClassDef):
                methods.update(part.name for part in node.body if isinstance(part, ast.FunctionDef))
            elif isinstance(node, ast.Attribute) and isinstance(node.ctx, ast.Store):
                attributes.add(node.attr)
        self.assertFalse(methods & attributes)
        for name in attributes:
            for kind in (str, int, list, dict, set, bytes, tuple):
                self.assertFalse(hasattr(kind, name), name)

    def test_l19_caught_are_own_errors_alone(self):
        for at, node in self.nodes():
            if isinstance(node, ast.ExceptHandler):
                self.assertIsInstance(node.type, ast.Name, at)
                self.assertIn(node.type.id, ("NoText", "NoRow", "TooMany"), at)
            if isinstance(node, ast.Raise):
                self.assertIsInstance(node.exc, ast.Call, at)
                self.assertIsInstance(node.exc.func, ast.Name, at)

    def test_l20_is_only_with_none_and_truths(self):
        for at, node in self.nodes():
            if isinstance(node, ast.Compare):
                for sign, right in zip(node.ops, node.comparators):
                    if isinstance(sign, (ast.Is, ast.IsNot)):
                        self.assertIsInstance(right, ast.Constant, at)
                        self.assertIn(repr(right.value), ("None", "True", "False"), at)

    def test_l25_methods(self):
        own = {node.name for at, node in self.nodes() if isinstance(node, ast.FunctionDef)}
        for at, node in self.nodes():
            if isinstance(node, ast.Call) and isinstance(node.func, ast.Attribute):
                self.assertIn(node.func.attr, ALLOWED_METHODS | own, at)
                self.assertTrue(not node.keywords or node.func.attr == "sort", at)

    def test_l27_powers_and_strings(self):
        for at, node in self.nodes():
            if isinstance(node, ast.BinOp) and isinstance(node.op, ast.Pow):
                self.assertIsInstance(node.right, ast.Constant, at)
            if isinstance(node, ast.Constant) and isinstance(node.value, str):
                self.assertNotIn("%", node.value, at)

    def test_l27_no_warnings(self):
        for path, text in self.texts.items():
            with warnings.catch_warnings():
                warnings.simplefilter("error")
                compile(text, path.name, "exec")


if __name__ == "__main__":
    unittest.main()
