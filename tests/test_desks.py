import unittest

from tests.helper import SIZES, WRONG_SIZES
from voteclashes.desks import Desk
from voteclashes.errors import BadSize, InvalidText, NothingToUndo, NotText
from voteclashes.rows import rankings, rows
from voteclashes.rules import choice, lies, names, told_rule
from voteclashes.texts import write_row

STARTS = {(2, 2): ((0, 1), (0, 1)), (2, 3): ((0, 1, 2), (0, 1, 2)), (3, 2): ((0, 1), (0, 1), (0, 1))}

# Lines that mean nothing at a desk for 2 people and 3 things.
INVALID = (
    "", " ", "  ", "Row", "row ", " row", "row row", "rows", "row\n", "\trow", "row 0", "fair", "Most", "most ",
    " most", "most 0", "most most", "most\n", "ranks\t", "none", "undo", "lies", "lies ", " lies", "lies most",
    "lies most ", "lies most 2", "lies most -1", "lies most +1", "lies most 00", "lies most 1 ", " lies most 1",
    "lies  most 1", "lies most  1", "lies most 1 1", "lies most 1\n", "lies\tmost 1", "lies fair 1", "lies row 1",
    "lies lies 1", "lies 1 most", "lies most one", "lies Most 1", "Lies most 1", "lies most \u0661", "most lies 1",
    "tells most 1", "lies most 10", "2 012", "-1 012", "3 012", "00 012", "+0 012", "0 01", "0 10", "0 0123",
    "0 011", "0 123", "0 013", "0 ", " 0", "0", "012", "0 012 ", " 0 012", "0  012", "0 012\n", "0\t012", "0,012",
    "0 0 1 2", "0 012 012", "012 0", "012 012", "0 (0, 1, 2)", "\u0660 012", "0 \uff10\uff11\uff12", "0 0-12",
    "0 012 1 012", "x 012", "0 most", "row 012", "1 row", "a" * 100000, "0 012\x00", "0\u00a0012", "\n",
)


class ExampleTests(unittest.TestCase):
    def test_examples(self):
        desk = Desk(2, 3)
        lines = ("0 102", "1 201", "row", "most", "lies most 1", "lies boss 1", "third")
        answers = [None, None, "102 201", "1", "012 021", "none", "0"]
        self.assertEqual([desk.run(line) for line in lines], answers)
        self.assertEqual([desk.undo(), desk.row], [None, ((1, 0, 2), (0, 1, 2))])
        self.assertRaises(InvalidText, desk.run, "2 012")
        self.assertEqual(desk.row, ((1, 0, 2), (0, 1, 2)))


class LineTests(unittest.TestCase):
    def test_at_first(self):
        for pair in SIZES:
            desk = Desk(*pair)
            self.assertEqual(desk.row, STARTS[pair])
            self.assertEqual(desk.run("row"), write_row(STARTS[pair]))

    def test_each_ranking_by_each_person(self):
        for people, things in SIZES:
            desk, row = Desk(people, things), STARTS[people, things]
            for person in range(people):
                for ranking in rankings(things):
                    self.assertIsNone(desk.run(f"{person} " + "".join(map(str, ranking))))
                    row = row[:person] + (ranking,) + row[person + 1:]
                    self.assertEqual(desk.row, row)
                    self.assertEqual(desk.run("row"), write_row(row))

    def test_names_and_lies(self):
        for people, things in SIZES:
            desk = Desk(people, things)
            for row in rows(people, things)[::2] + rows(people, things)[-1:]:
                for person, ranking in enumerate(row):
                    desk.run(f"{person} " + "".join(map(str, ranking)))
                for name in names():
                    rule = told_rule(name, people, things)
                    self.assertEqual(desk.run(name), str(choice(rule, row)))
                    for person in range(people):
                        found = ["".join(map(str, ranking)) for ranking in lies(rule, row, person)]
                        self.assertEqual(desk.run(f"lies {name} {person}"), " ".join(found) or "none")
                self.assertEqual(desk.row, row)

    def test_lies_of_each_kind(self):
        desk = Desk(2, 2)
        self.assertEqual(desk.run("lies low 0"), "10")
        self.assertEqual(desk.run("lies low 1"), "none")
        desk = Desk(3, 2)
        self.assertEqual([desk.run(f"lies next {person}") for person in range(3)], ["10", "none", "none"])


class WrongLineTests(unittest.TestCase):
    def test_invalid_lines_change_nothing(self):
        desk = Desk(2, 3)
        desk.run("0 102")
        desk.run("1 201")
        for line in INVALID:
            with self.subTest(line=line[:50]):
                self.assertRaises(InvalidText, desk.run, line)
                self.assertEqual(desk.row, ((1, 0, 2), (2, 0, 1)))
        desk.undo()
        self.assertEqual(desk.row, ((1, 0, 2), (0, 1, 2)))
        desk.undo()
        self.assertEqual(desk.row, ((0, 1, 2), (0, 1, 2)))
        self.assertRaises(NothingToUndo, desk.undo)

    def test_lines_of_other_sizes(self):
        for pair, lines in (
            ((2, 2), ("2 01", "0 012", "1 102", "lies most 2", "0 00", "0 12")),
            ((2, 3), ("2 012", "0 01", "lies most 2")),
            ((3, 2), ("3 01", "2 012", "lies most 3", "0 0")),
        ):
            desk = Desk(*pair)
            for line in lines:
                with self.subTest(size=pair, line=line):
                    self.assertRaises(InvalidText, desk.run, line)
                    self.assertEqual(desk.row, STARTS[pair])
            self.assertRaises(NothingToUndo, desk.undo)
        self.assertEqual(Desk(3, 2).run("lies low 2"), "none")

    def test_no_texts(self):
        desk = Desk(2, 3)
        desk.run("0 210")
        for line in (None, True, 0, 5, (), ("row",), ["row"], [], {}, {"row": 1}, (0, (0, 1, 2)), ["0", "012"]):
            with self.subTest(line=line):
                self.assertRaises(NotText, desk.run, line)
                self.assertEqual(desk.row, ((2, 1, 0), (0, 1, 2)))
        desk.undo()
        self.assertRaises(NothingToUndo, desk.undo)

    def test_wrong_sizes(self):
        for pair in WRONG_SIZES:
            with self.subTest(size=pair):
                self.assertRaises(BadSize, Desk, *pair)


class UndoTests(unittest.TestCase):
    def test_nothing_to_undo(self):
        for pair in SIZES:
            desk = Desk(*pair)
            self.assertRaises(NothingToUndo, desk.undo)
            for line in ("row", "most", "lies most 0"):
                desk.run(line)
            self.assertRaises(NothingToUndo, desk.undo)
            self.assertEqual(desk.row, STARTS[pair])

    def test_back_through_all_lines(self):
        desk, seen = Desk(3, 2), []
        for line in ("0 10", "1 10", "0 10", "2 10", "0 01", "2 10", "1 01"):
            seen.append(desk.row)
            desk.run(line)
            desk.run("most")
            desk.run("row")
            self.assertRaises(InvalidText, desk.run, "0 012")
        for row in seen[::-1]:
            self.assertIsNone(desk.undo())
            self.assertEqual(desk.row, row)
        self.assertRaises(NothingToUndo, desk.undo)
        self.assertEqual(desk.row, STARTS[3, 2])

    def test_a_line_that_changes_nothing_is_taken_back_too(self):
        desk = Desk(2, 2)
        desk.run("1 10")
        desk.run("1 10")
        desk.undo()
        self.assertEqual(desk.row, ((0, 1), (1, 0)))
        desk.undo()
        self.assertEqual(desk.row, ((0, 1), (0, 1)))
        self.assertRaises(NothingToUndo, desk.undo)

    def test_lines_after_undo(self):
        desk = Desk(2, 3)
        desk.run("0 120")
        desk.run("1 021")
        desk.undo()
        desk.run("1 210")
        self.assertEqual(desk.run("row"), "120 210")
        desk.undo()
        desk.undo()
        self.assertEqual(desk.run("row"), "012 012")

    def test_desks_are_apart(self):
        one, other = Desk(2, 2), Desk(2, 2)
        one.run("0 10")
        self.assertEqual(other.row, STARTS[2, 2])
        self.assertRaises(NothingToUndo, other.undo)
        self.assertEqual(one.row, ((1, 0), (0, 1)))


class RowPropertyTests(unittest.TestCase):
    def test_row_is_read_only_and_made_of_integers(self):
        desk = Desk(2, 3)
        desk.run("0 201")
        self.assertTrue(all(type(item) is int for ranking in desk.row for item in ranking))
        self.assertIsInstance(Desk.__dict__["row"], property)
        with self.assertRaises(AttributeError):
            desk.row = ((0, 1, 2), (0, 1, 2))


if __name__ == "__main__":
    unittest.main()
