"""Checks what can be checked simply of the rules for the files of the package."""

import ast
import builtins
import pathlib
import re
import unittest

FOLDER = pathlib.Path(__file__).resolve().parent.parent / "orderpairs"
WORDS = ("type typing typing_extensions enum Enum IntEnum StrEnum Flag IntFlag Generic Protocol ABC ABCMeta namedtuple "
         "NamedTuple TypedDict TYPE_CHECKING abstractmethod").split()
STATEMENTS = (ast.Global, ast.AsyncFunctionDef, ast.AsyncFor, ast.AsyncWith, ast.Await, ast.Import)
SPECIAL = ["__init__", "__eq__"]


def files():
    for path in sorted(FOLDER.glob("*.py")):
        yield path.name, path.read_text(encoding="utf-8")


def nodes():
    for name, text in files():
        for node in ast.walk(ast.parse(text)):
            yield name, node


class Language(unittest.TestCase):
    def test_the_folder_contains_only_files_of_the_language(self):
        for path in FOLDER.iterdir():
            if path.name != "__pycache__":
                self.assertRegex(path.name, r"\A[a-z0-9_]+\.py\Z")

    def test_characters_and_sizes(self):
        for name, text in files():
            self.assertRegex(text, r"\A[ -~\n]*\Z", name)
            lines = text.split("\n")
            self.assertLess(len(lines), 400, name)
            self.assertLessEqual(max(map(len, lines)), 120, name)

    def test_functions_are_short(self):
        for name, node in nodes():
            if isinstance(node, ast.FunctionDef):
                self.assertLessEqual(node.end_lineno - node.lineno + 1, 40, (name, node.name))

    def test_words_that_do_not_occur(self):
        for name, text in files():
            for word in re.findall(r"\w+", text):
                self.assertNotIn(word, WORDS, name)
                self.assertNotRegex(word, "dataclass|overload|contextmanager", name)

    def test_imports(self):
        for name, node in nodes():
            self.assertNotIsInstance(node, STATEMENTS, name)
            if isinstance(node, ast.ImportFrom):
                self.assertRegex(node.module, r"\Aorderpairs\.[a-z]+\Z", name)
                self.assertEqual(node.level, 0, name)

    def test_names(self):
        for name, node in nodes():
            for word in [getattr(node, part, None) for part in ("name", "id", "attr", "arg")]:
                if isinstance(word, str) and word not in SPECIAL:
                    self.assertRegex(word, r"\A[A-Za-z]", name)

    def test_no_floats(self):
        for name, node in nodes():
            self.assertNotIsInstance(node, ast.Div, name)
            if isinstance(node, ast.Constant):
                self.assertNotIsInstance(node.value, (float, complex), name)

    def test_identity_is_asked_only_of_constants(self):
        for name, node in nodes():
            if isinstance(node, ast.Compare) and any(isinstance(sign, (ast.Is, ast.IsNot)) for sign in node.ops):
                self.assertTrue(all(isinstance(part, ast.Constant) for part in node.comparators), name)

    def test_no_generator_expressions(self):
        for name, node in nodes():
            self.assertNotIsInstance(node, ast.GeneratorExp, name)

    def test_no_name_is_both_a_method_and_an_attribute(self):
        methods, attributes = [], []
        for name, node in nodes():
            if isinstance(node, ast.ClassDef):
                methods += [part.name for part in node.body if isinstance(part, ast.FunctionDef)]
            if isinstance(node, ast.Attribute) and isinstance(node.ctx, ast.Store):
                attributes.append(node.attr)
        self.assertEqual(sorted(set(methods) & set(attributes)), [])

    def test_variables_do_not_hide_other_names(self):
        for name, text in files():
            tree = ast.parse(text)
            taken = [node.name for node in tree.body if isinstance(node, ast.ClassDef)]
            taken += [part.name for node in tree.body if isinstance(node, ast.ImportFrom) for part in node.names]
            taken += dir(builtins)
            for node in ast.walk(tree):
                if isinstance(node, ast.Name) and isinstance(node.ctx, ast.Store):
                    self.assertNotIn(node.id, taken, name)
                if isinstance(node, ast.arg):
                    self.assertNotIn(node.arg, taken, name)

    def test_every_imported_name_is_used_and_stands_in_the_named_file(self):
        for name, text in files():
            tree = ast.parse(text)
            used = [node.id for node in ast.walk(tree) if isinstance(node, ast.Name)]
            for node in [node for node in tree.body if isinstance(node, ast.ImportFrom)]:
                source = ast.parse((FOLDER / (node.module.split(".")[1] + ".py")).read_text(encoding="utf-8"))
                defined = [part.name for part in source.body if isinstance(part, (ast.ClassDef, ast.FunctionDef))]
                defined += [part.targets[0].id for part in source.body if isinstance(part, ast.Assign)]
                for part in node.names:
                    self.assertIn(part.name, used, name)
                    self.assertIn(part.name, defined, name)

    def test_generators_are_iterated_at_once(self):
        makers = [node.name for name, node in nodes() if isinstance(node, ast.FunctionDef)
                  and any(isinstance(part, (ast.Yield, ast.YieldFrom)) for part in ast.walk(node))]
        self.assertEqual(sorted(makers), ["lacking", "orders", "sets", "works"])
        for name, text in files():
            tree = ast.parse(text)
            iterated = [node.iter for node in ast.walk(tree) if isinstance(node, (ast.For, ast.comprehension))]
            for node in ast.walk(tree):
                if isinstance(node, ast.Call) and isinstance(node.func, ast.Name) and node.func.id in ("list", "tuple"):
                    iterated += node.args
            for node in ast.walk(tree):
                if isinstance(node, ast.Call) and getattr(node.func, "id", getattr(node.func, "attr", "")) in makers:
                    self.assertIn(node, iterated, (name, node.lineno))


if __name__ == "__main__":
    unittest.main()
