"""The package's own files keep to the small part of Python that is agreed, so far as their form can tell."""

import ast
import builtins
import pathlib
import re
import unittest

PACKAGE = pathlib.Path(__file__).resolve().parent.parent / "twistturn"

BUILT_IN = set(
    "len range enumerate zip min max sum abs sorted reversed int str bool list tuple dict set frozenset isinstance ord "
    "repr any all divmod Exception ValueError TypeError KeyError IndexError LookupError ZeroDivisionError "
    "ArithmeticError OverflowError RuntimeError NotImplementedError AttributeError StopIteration".split()
)
METHODS = set(
    "append clear copy count endswith extend find get index insert isalnum isalpha isdigit islower isspace isupper "
    "items join keys ljust lower lstrip partition pop remove replace reverse rfind rjust rpartition rsplit rstrip "
    "setdefault split splitlines startswith strip update upper values zfill bit_length".split()
)
DOUBLE_UNDERSCORED = {"__init__", "__eq__", "__repr__", "__str__", "__len__"}
WORDS_OUT = set(
    "type typing typing_extensions enum Enum IntEnum StrEnum Flag IntFlag Generic Protocol ABC ABCMeta namedtuple "
    "NamedTuple TypedDict TYPE_CHECKING abstractmethod".split()
)
WORDS_OUT_WITHIN = ("dataclass", "overload", "contextmanager")
FORMS_OUT = (
    ast.Import, ast.With, ast.Match, ast.Delete, ast.Global, ast.Nonlocal, ast.Assert, ast.Yield, ast.YieldFrom,
    ast.AsyncFunctionDef, ast.AsyncFor, ast.AsyncWith, ast.Await, ast.SetComp, ast.DictComp, ast.GeneratorExp,
    ast.NamedExpr, ast.Starred, ast.Div, ast.MatMult, ast.AnnAssign,
)
WALKED_AT_ONCE = {"zip", "enumerate", "reversed", "range"}


def sources():
    return {path: path.read_text(encoding="utf-8") for path in sorted(PACKAGE.glob("*.py"))}


class Language(unittest.TestCase):
    def each_node(self):
        for path, text in sources().items():
            for node in ast.walk(ast.parse(text)):
                yield f"{path.name}:{getattr(node, 'lineno', 0)}", node

    def test_files(self):
        for path in PACKAGE.rglob("*"):
            if "__pycache__" not in path.parts:
                self.assertRegex(path.name, r"^[a-z0-9_]+\.py$")
        self.assertTrue((PACKAGE / "__init__.py").is_file())

    def test_signs_and_sizes(self):
        for path, text in sources().items():
            self.assertRegex(text, r"\A[ -~\n]*\Z", path.name)
            self.assertLessEqual(len(text.splitlines()), 400, path.name)
            self.assertLessEqual(max(len(line) for line in text.splitlines()), 120, path.name)
        for where, node in self.each_node():
            if isinstance(node, ast.FunctionDef):
                self.assertLessEqual(node.end_lineno - node.lineno + 1, 40, where)

    def test_words_that_stand_nowhere(self):
        for path, text in sources().items():
            self.assertEqual(set(re.findall(r"\w+", text)) & WORDS_OUT, set(), path.name)
            for word in WORDS_OUT_WITHIN:
                self.assertNotIn(word, text, path.name)

    def test_only_the_package_itself_is_imported(self):
        for where, node in self.each_node():
            if isinstance(node, ast.ImportFrom):
                self.assertEqual(node.level, 0, where)
                self.assertRegex(node.module, r"^twistturn\.[a-z0-9_]+$", where)
                self.assertNotIn("*", [name.name for name in node.names], where)

    def test_forms(self):
        for where, node in self.each_node():
            self.assertNotIsInstance(node, FORMS_OUT, where)
            if isinstance(node, (ast.FunctionDef, ast.ClassDef)):
                self.assertEqual(node.decorator_list, [], where)
            if isinstance(node, (ast.For, ast.While)):
                self.assertEqual(node.orelse, [], where)
            if isinstance(node, ast.Try):
                self.assertEqual(node.finalbody, [], where)
            if isinstance(node, ast.Assign):
                self.assertEqual(len(node.targets), 1, where)
            if isinstance(node, ast.Constant):
                self.assertIsInstance(node.value, (int, str, type(None)), where)
            if isinstance(node, ast.ListComp):
                self.assertEqual(len(node.generators), 1, where)
            if isinstance(node, ast.Assign) and isinstance(node.value, ast.Call):
                self.assertNotIn(getattr(node.value.func, "id", ""), WALKED_AT_ONCE, where)

    def test_numbers_texts_and_is(self):
        for where, node in self.each_node():
            if isinstance(node, ast.BinOp) and isinstance(node.op, ast.Pow):
                self.assertIsInstance(node.right, ast.Constant, where)
                self.assertIn(node.right.value, range(65), where)
            if isinstance(node, ast.Constant) and isinstance(node.value, str):
                self.assertNotIn("%", node.value, where)
            if isinstance(node, ast.Compare) and isinstance(node.ops[0], (ast.Is, ast.IsNot)):
                self.assertIn(getattr(node.comparators[0], "value", "other"), (None, True, False), where)

    def test_each_name_of_a_files_top_is_bound_once(self):
        for path, text in sources().items():
            names = []
            for node in ast.parse(text).body:
                if isinstance(node, (ast.FunctionDef, ast.ClassDef)):
                    names.append(node.name)
                elif isinstance(node, ast.ImportFrom):
                    names += [name.name for name in node.names]
                elif isinstance(node, ast.Assign):
                    names.append(node.targets[0].id)
                else:
                    self.assertEqual((type(node), node.lineno), (ast.Expr, 1), path.name)
            self.assertEqual(sorted(names), sorted(set(names)), path.name)

    def test_no_two_files_draw_from_one_another(self):
        drawn = {}
        for path, text in sources().items():
            rows = [node for node in ast.parse(text).body if isinstance(node, ast.ImportFrom)]
            drawn["twistturn." + path.stem] = {row.module for row in rows}
        while drawn:
            free = [name for name in drawn if not drawn[name] & set(drawn)]
            self.assertNotEqual(free, [], sorted(drawn))
            for name in free:
                del drawn[name]

    def test_what_is_imported_is_defined_there_and_used(self):
        for path, text in sources().items():
            tree = ast.parse(text)
            used = {node.id for node in ast.walk(tree) if isinstance(node, ast.Name)}
            for node in tree.body:
                if isinstance(node, ast.ImportFrom):
                    source = (PACKAGE / (node.module.split(".")[1] + ".py")).read_text(encoding="utf-8")
                    for name in node.names:
                        self.assertIn(name.name, used, path.name)
                        self.assertRegex(source, rf"(?m)^(def |class )?{name.name}\b", path.name)

    def test_names(self):
        for where, node in self.each_node():
            if isinstance(node, ast.Name) and hasattr(builtins, node.id):
                self.assertIn(node.id, BUILT_IN, where)
                self.assertIsInstance(node.ctx, ast.Load, where)
            if isinstance(node, ast.arg):
                self.assertFalse(hasattr(builtins, node.arg), where)
            for name in (getattr(node, "id", None), getattr(node, "arg", None), getattr(node, "name", None)):
                if isinstance(name, str) and name not in DOUBLE_UNDERSCORED:
                    self.assertFalse(name.startswith("_"), where)

    def test_no_parameter_or_local_is_called_like_a_class_or_an_import(self):
        for path, text in sources().items():
            tree = ast.parse(text)
            taken = {node.name for node in tree.body if isinstance(node, ast.ClassDef)}
            taken |= {name.name for node in tree.body if isinstance(node, ast.ImportFrom) for name in node.names}
            for node in ast.walk(tree):
                if isinstance(node, ast.arg):
                    self.assertNotIn(node.arg, taken, path.name)
                if isinstance(node, ast.Name) and isinstance(node.ctx, ast.Store):
                    self.assertNotIn(node.id, taken, path.name)

    def test_methods_of_texts_and_lists(self):
        own = {node.name for _, node in self.each_node() if isinstance(node, ast.FunctionDef)}
        for where, node in self.each_node():
            if isinstance(node, ast.Call) and isinstance(node.func, ast.Attribute):
                self.assertIn(node.func.attr, METHODS | own, where)


if __name__ == "__main__":
    unittest.main()
