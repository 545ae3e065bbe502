import ast
import copy
import unittest
from importlib import import_module
from pathlib import Path

from tests.helper import SIZES, WRONG
from voteclashes.axioms import axioms, breaking_row, keeps, profile
from voteclashes.errors import VoteError
from voteclashes.rows import beats_all, place_sums, rankings, rows
from voteclashes.rules import bosses, choice, lies, names, size, told_rule

PACKAGE = Path(__file__).resolve().parent.parent / "voteclashes"

INTERFACE = {
    "errors": (
        "VoteError", "BadSize", "BadRow", "BadName", "BadPerson", "BadAxiom", "BadAxioms",
        "NotAlike", "NotText", "InvalidText", "NothingToUndo", "BadRule",
    ),
    "rows": ("rankings", "rows", "place_sums", "beats_all"),
    "rules": ("size", "bosses", "lies", "names", "choice", "told_rule"),
    "axioms": ("axioms", "profile", "keeps", "breaking_row"),
}

# Each function with valid arguments, so that one at a time can be put wrong.
CALLS = (
    (rankings, (3,)),
    (rows, (2, 3)),
    (beats_all, (((0, 1), (0, 1)),)),
    (place_sums, (((0, 1), (0, 1)),)),
    (size, ((0, 0, 0, 1),)),
    (choice, ((0, 0, 0, 1), ((0, 1), (0, 1)))),
    (bosses, ((0, 0, 1, 1),)),
    (lies, ((1, 1, 0, 0), ((0, 1), (0, 1)), 0)),
    (told_rule, ("most", 2, 3)),
    (keeps, ((0, 0, 0, 1), "things")),
    (breaking_row, ((0, 0, 0, 1), "things")),
    (profile, ((0, 0, 0, 1),)),
)


def sources():
    return {path.name: path.read_text(encoding="utf-8") for path in PACKAGE.glob("*.py")}


class InterfaceTests(unittest.TestCase):
    def test_defined_where_listed(self):
        for module, listed in INTERFACE.items():
            tree = ast.parse((PACKAGE / f"{module}.py").read_text(encoding="utf-8"))
            defined = [node.name for node in tree.body if isinstance(node, (ast.FunctionDef, ast.ClassDef))]
            for name in listed:
                with self.subTest(module=module, name=name):
                    self.assertEqual(defined.count(name), 1)
                    self.assertTrue(hasattr(import_module(f"voteclashes.{module}"), name))

    def test_kinds_of_values(self):
        for pair in SIZES:
            rule = told_rule("most", *pair)
            row = rows(*pair)[1]
            for value in (rankings(pair[1]), rows(*pair), row, place_sums(row), rule, size(rule), bosses(rule),
                          lies(rule, row, 0), names(), axioms(), profile(rule), breaking_row(rule, "noboss") or ()):
                self.assertIs(type(value), tuple)
            self.assertIs(type(choice(rule, row)), int)
            self.assertIs(type(beats_all(rows(*pair)[0])), int)
            self.assertIs(type(keeps(rule, "open")), bool)


class ArgumentTests(unittest.TestCase):
    def test_any_value_gives_an_error_of_the_package(self):
        for call, arguments in CALLS:
            for at in range(len(arguments)):
                for value in WRONG:
                    with self.subTest(call=call.__name__, at=at, value=value):
                        given = arguments[:at] + (copy.deepcopy(value),) + arguments[at + 1:]
                        self.assertRaises(VoteError, call, *given)
                        self.assertEqual(given[at], value)

    def test_deep_and_round_values(self):
        deep, round_list = (), []
        for _ in range(20000):
            deep = (deep, deep)
        round_list.append(round_list)
        for call, arguments in CALLS:
            for at in range(len(arguments)):
                self.assertRaises(VoteError, call, *arguments[:at], deep, *arguments[at + 1:])
                self.assertRaises(VoteError, call, *arguments[:at], round_list, *arguments[at + 1:])

    def test_an_error_changes_nothing(self):
        before = [call(*arguments) for call, arguments in CALLS]
        for call, arguments in CALLS:
            self.assertRaises(VoteError, call, *(None for _ in arguments))
        self.assertEqual([call(*arguments) for call, arguments in CALLS], before)


class LayoutTests(unittest.TestCase):
    def test_folder_holds_only_source_files(self):
        for path in PACKAGE.iterdir():
            if path.name != "__pycache__":
                self.assertEqual((path.is_file(), path.suffix), (True, ".py"))
        self.assertIn("__init__.py", sources())

    def test_sizes_and_characters(self):
        for name, text in sources().items():
            lines = text.split("\n")
            with self.subTest(name):
                self.assertLessEqual(len(lines), 400)
                self.assertLessEqual(max(len(line) for line in lines), 120)
                self.assertEqual({sign for sign in text if not " " <= sign <= "~"} - {"\n"}, set())

    def test_functions_are_short(self):
        for name, text in sources().items():
            for node in ast.walk(ast.parse(text)):
                if isinstance(node, ast.FunctionDef):
                    with self.subTest(file=name, function=node.name):
                        self.assertLessEqual(node.end_lineno - node.lineno + 1, 40)

    def test_imports(self):
        for name, text in sources().items():
            for node in ast.walk(ast.parse(text)):
                self.assertNotIsInstance(node, ast.Import)
                if isinstance(node, ast.ImportFrom):
                    with self.subTest(file=name, module=node.module):
                        self.assertTrue(node.module.startswith("voteclashes.") or node.module == "itertools")


if __name__ == "__main__":
    unittest.main()
