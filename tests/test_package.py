import ast
import copy
import unittest
from importlib import import_module
from pathlib import Path

from tests.helper import SIZES, WRONG
from voteclashes.axioms import axioms, breaking_row, keeps, profile
from voteclashes.desks import Desk
from voteclashes.errors import BadAxioms, BadPerson, BadRow, BadRule, BadSize, NotAlike, VoteError
from voteclashes.maps import (
    can_add, can_hold, clashes, count_rules, greatest_sets, least_clashes, some_rule,
)
from voteclashes.papers import paper, shows_clash
from voteclashes.rows import beats_all, place_sums, rankings, rows
from voteclashes.rules import bosses, choice, lies, names, size, told_rule
from voteclashes.texts import read_row, read_rule, write_row, write_rule

PACKAGE = Path(__file__).resolve().parent.parent / "voteclashes"

INTERFACE = {
    "errors": (
        "VoteError", "BadSize", "BadRow", "BadName", "BadPerson", "BadAxiom", "BadAxioms",
        "NotAlike", "NotText", "InvalidText", "NothingToUndo", "BadRule",
    ),
    "rows": ("rankings", "rows", "place_sums", "beats_all"),
    "rules": ("size", "bosses", "lies", "names", "choice", "told_rule"),
    "axioms": ("axioms", "profile", "keeps", "breaking_row"),
    "maps": (
        "can_hold", "some_rule", "can_add", "greatest_sets", "least_clashes", "clashes", "count_rules",
    ),
    "papers": ("paper", "shows_clash"),
    "texts": ("write_row", "write_rule", "read_row", "read_rule"),
    "desks": ("Desk",),
}


def is_paper_of_none(people, things, wanted):
    """A paper may be any value, so only the other arguments of shows_clash can be wrong."""
    return shows_clash(people, things, wanted, ())


def run_line(line):
    return Desk(2, 3).run(line)


def start_desk(people, things):
    return Desk(people, things).row


# Each function with valid arguments, so that one at a time can be put wrong.
CALLS = (
    (rankings, (3,)),
    (rows, (2, 3)),
    (beats_all, (((0, 1), (0, 1)),)),
    (place_sums, (((0, 1), (0, 1)),)),
    (size, ((0, 0, 0, 1),)),
    (choice, ((0, 0, 0, 1), ((0, 1), (0, 1)))),
    (bosses, ((0, 0, 1, 1),)),
    (lies, ((1, 1, 0, 0), ((0, 1), (0, 1)), 0)),
    (told_rule, ("most", 2, 3)),
    (keeps, ((0, 0, 0, 1), "things")),
    (breaking_row, ((0, 0, 0, 1), "things")),
    (profile, ((0, 0, 0, 1),)),
    (can_hold, (2, 3, ("open",))),
    (some_rule, (2, 3, ("open",))),
    (can_add, (2, 3, ("open",))),
    (clashes, (2, 3, ("people", "turned"))),
    (greatest_sets, (2, 3)),
    (least_clashes, (2, 3)),
    (count_rules, (2, 2, ("open",))),
    (paper, (2, 3, ("people", "turned"))),
    (is_paper_of_none, (2, 3, ("people", "turned"))),
    (write_row, (((0, 1), (0, 1)),)),
    (write_rule, ((0, 0, 0, 1),)),
    (read_row, ("012 210",)),
    (read_rule, ("0110",)),
    (run_line, ("lies most 1",)),
    (start_desk, (2, 3)),
)

# A few of the values that are wrong elsewhere are right here, as the last argument.
RIGHT = {
    can_hold: [()], some_rule: [()], can_add: [()], clashes: [()], count_rules: [()], paper: [()],
    is_paper_of_none: [()], read_row: ["01 10"],
}


def sources():
    return {path.name: path.read_text(encoding="utf-8") for path in PACKAGE.glob("*.py")}


class InterfaceTests(unittest.TestCase):
    def test_defined_where_listed(self):
        for module, listed in INTERFACE.items():
            tree = ast.parse((PACKAGE / f"{module}.py").read_text(encoding="utf-8"))
            defined = [node.name for node in tree.body if isinstance(node, (ast.FunctionDef, ast.ClassDef))]
            for name in listed:
                with self.subTest(module=module, name=name):
                    self.assertEqual(defined.count(name), 1)
                    self.assertTrue(hasattr(import_module(f"voteclashes.{module}"), name))

    def test_kinds_of_values(self):
        for pair in SIZES:
            rule = told_rule("most", *pair)
            row = rows(*pair)[1]
            for value in (rankings(pair[1]), rows(*pair), row, place_sums(row), rule, size(rule), bosses(rule),
                          lies(rule, row, 0), names(), axioms(), profile(rule), breaking_row(rule, "noboss") or ()):
                self.assertIs(type(value), tuple)
            self.assertIs(type(choice(rule, row)), int)
            self.assertIs(type(beats_all(rows(*pair)[0])), int)
            self.assertIs(type(keeps(rule, "open")), bool)
            for value in (some_rule(*pair, ("open",)), can_add(*pair, ()), greatest_sets(*pair), least_clashes(*pair),
                          clashes(*pair, ()), read_row(write_row(row)), read_rule(write_rule(rule)), Desk(*pair).row):
                self.assertIs(type(value), tuple)
            self.assertIs(type(can_hold(*pair, ())), bool)
            self.assertIs(type(shows_clash(*pair, (), ())), bool)
            for value in (write_row(row), write_rule(rule), Desk(*pair).run("most"), Desk(*pair).run("row")):
                self.assertIs(type(value), str)

    def test_desk_defines_its_own_methods(self):
        self.assertLessEqual({"run", "undo", "row"}, set(Desk.__dict__))
        self.assertIsInstance(Desk.__dict__["row"], property)


class ArgumentTests(unittest.TestCase):
    def test_any_value_gives_an_error_of_the_package(self):
        for call, arguments in CALLS:
            right = RIGHT.get(call, [])
            for at in range(len(arguments)):
                for value in [value for value in WRONG if at < len(arguments) - 1 or value not in right]:
                    with self.subTest(call=call.__name__, at=at, value=value):
                        given = arguments[:at] + (copy.deepcopy(value),) + arguments[at + 1:]
                        self.assertRaises(VoteError, call, *given)
                        self.assertEqual(given[at], value)

    def test_deep_and_round_values(self):
        deep, round_list = (), []
        for _ in range(20000):
            deep = (deep, deep)
        round_list.append(round_list)
        for call, arguments in CALLS:
            for at in range(len(arguments)):
                self.assertRaises(VoteError, call, *arguments[:at], deep, *arguments[at + 1:])
                self.assertRaises(VoteError, call, *arguments[:at], round_list, *arguments[at + 1:])

    def test_the_first_invalid_argument_gives_the_error(self):
        row, rule = ((0, 1), (0, 1)), (0, 0, 0, 1)
        for error, call, arguments in (
            (BadSize, can_hold, (2, 5, ("open", "open"))), (BadSize, paper, (None, 3, None)),
            (BadSize, some_rule, (2, [], [])), (BadSize, clashes, ({}, 2, ("fair",))),
            (BadSize, count_rules, (2, 3, ("open", "open"))), (BadAxioms, can_add, (2, 3, ["open"])),
            (BadAxioms, is_paper_of_none, (2, 3, ("open", "agreed"))), (BadRule, lies, (None, None, None)),
            (BadRow, lies, (rule, None, None)), (NotAlike, lies, (rule, row + row[:1], None)),
            (NotAlike, lies, ((0,) * 8, row, 7)), (BadPerson, lies, (rule, row, 2)),
            (BadPerson, lies, (rule, row, True)), (BadRow, choice, (rule, row + row)),
        ):
            with self.subTest(call=call.__name__, arguments=arguments):
                self.assertRaises(error, call, *arguments)

    def test_an_error_changes_nothing(self):
        before = [call(*arguments) for call, arguments in CALLS]
        for call, arguments in CALLS:
            self.assertRaises(VoteError, call, *(None for _ in arguments))
        self.assertEqual([call(*arguments) for call, arguments in CALLS], before)


class LayoutTests(unittest.TestCase):
    def test_folder_holds_only_source_files(self):
        for path in PACKAGE.iterdir():
            if path.name != "__pycache__":
                self.assertEqual((path.is_file(), path.suffix), (True, ".py"))
        self.assertIn("__init__.py", sources())

    def test_sizes_and_characters(self):
        for name, text in sources().items():
            lines = text.split("\n")
            with self.subTest(name):
                self.assertLessEqual(len(lines), 400)
                self.assertLessEqual(max(len(line) for line in lines), 120)
                self.assertEqual({sign for sign in text if not " " <= sign <= "~"} - {"\n"}, set())

    def test_functions_are_short(self):
        for name, text in sources().items():
            for node in ast.walk(ast.parse(text)):
                if isinstance(node, ast.FunctionDef):
                    with self.subTest(file=name, function=node.name):
                        self.assertLessEqual(node.end_lineno - node.lineno + 1, 40)

    def test_imports(self):
        for name, text in sources().items():
            for node in ast.walk(ast.parse(text)):
                self.assertNotIsInstance(node, ast.Import)
                if isinstance(node, ast.ImportFrom):
                    with self.subTest(file=name, module=node.module):
                        self.assertIn(node.module, ["itertools"] + [f"voteclashes.{module}" for module in INTERFACE])

    def test_names_are_imported_from_where_they_are_defined(self):
        for name, text in sources().items():
            for node in ast.walk(ast.parse(text)):
                if isinstance(node, ast.ImportFrom) and node.module != "itertools":
                    body = ast.parse(sources()[node.module.rpartition(".")[2] + ".py"]).body
                    defined = [one.name for one in body if isinstance(one, (ast.FunctionDef, ast.ClassDef))]
                    defined += [one.targets[0].id for one in body if isinstance(one, ast.Assign)]
                    with self.subTest(file=name, module=node.module):
                        self.assertLessEqual({one.name for one in node.names}, set(defined))


if __name__ == "__main__":
    unittest.main()
