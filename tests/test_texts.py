import unittest

from tests.helper import SIZES, WRONG, all_rules, rules_near_told
from voteclashes.errors import BadRow, BadRule, InvalidText, NotText
from voteclashes.rows import rankings, rows
from voteclashes.rules import names, told_rule
from voteclashes.texts import read_row, read_rule, write_row, write_rule

NO_TEXTS = (
    None, True, False, 0, 1, 110, -1, 10 ** 40, (), ("01", "10"), ("01 10",), ["01 10"], ["0", "1", "1", "0"], [],
    {}, {"01 10": 1}, ((0, 1), (1, 0)), (0, 1, 1, 0),
)

# White space other than a space, figures of other scripts, signs that look like figures.
SPACES = ("  ", "\t", "\n", "\r", "\x0b", "\x0c", "\x1c", "\x85", "\xa0", "\u2003", "\u3000", "", ",", "-", "_", ";")
STRANGE = {
    "0": ("\u0660", "\u0966", "\uff10", "\U0001d7ce", "O", "\u2070", "-0", "+0", "00", "", " ", "a", "3", "9"),
    "1": ("\u0661", "\u0967", "\uff11", "\U0001d7cf", "l", "\u00b9", "-1", "+1", "01", "", " ", "b", "3", "0"),
}


class ExampleTests(unittest.TestCase):
    def test_examples(self):
        self.assertEqual(write_row(((0, 1, 2), (2, 1, 0))), "012 210")
        self.assertEqual(read_row("01 10"), ((0, 1), (1, 0)))
        self.assertEqual(write_rule((0, 0, 1, 1)), "0011")
        self.assertEqual(read_rule("0110"), (0, 1, 1, 0))
        self.assertRaises(InvalidText, read_row, "01 012")


class RowTests(unittest.TestCase):
    def test_each_row_there_and_back(self):
        for people, things in SIZES:
            words = {ranking: "".join(map(str, ranking)) for ranking in rankings(things)}
            for row in rows(people, things):
                text = " ".join(words[ranking] for ranking in row)
                self.assertEqual(write_row(row), text)
                self.assertEqual(read_row(text), row)
                self.assertTrue(all(type(item) is int for ranking in read_row(text) for item in ranking))

    def test_nearly_texts(self):
        for people, things in SIZES:
            for row in rows(people, things)[::3]:
                text = write_row(row)
                wrong = [text + " ", " " + text, text + "\n", text + "\t", "\n" + text, text + "0", "0" + text,
                         text + " 012", text[:-1], text[1:], text.replace(" ", ""), text[:things], text + text,
                         text.replace("1", "0"), text + "\x00", text + " " + text, text[0] * 2 + text[2:]]
                wrong += [text.replace(" ", space) for space in SPACES]
                wrong += [text.replace(" ", space, 1) for space in SPACES]
                wrong += [text.replace(figure, other, 1) for figure in "01" for other in STRANGE[figure]]
                for nearly in wrong:
                    with self.subTest(text=nearly):
                        self.assertRaises(InvalidText, read_row, nearly)

    def test_texts_of_no_row(self):
        for text in ("", " ", "  ", "0", "01", "012", "0 1", "0 0", "01 01 01 01", "012 012 012", "01 012", "012 01",
                     "00 11", "02 20", "12 21", "123 321", "0123 0123", "0123 3210", "01 10 012", "((0, 1), (1, 0))",
                     "0 1 1 0", "0110", "01  10", "[01 10]", "none", "row", "01 10" * 5000):
            with self.subTest(text=text):
                self.assertRaises(InvalidText, read_row, text)

    def test_wrong_rows(self):
        for row in WRONG + ([], [(0, 1), (1, 0)], ((0, 1), [1, 0]), ((0, True), (0, 1)), ((0, 1), (False, 1)),
                            ((0, 1, 2), (0, 1)), ((0, 1, 2),) * 3, ((0, 1),) * 4, ((0, 1),), ((0, 0), (0, 1)),
                            ((1, 2), (2, 1)), "01 10", (0, 1, 1, 0), ("01", "10")):
            with self.subTest(row=row):
                self.assertRaises(BadRow, write_row, row)


class RuleTests(unittest.TestCase):
    def test_there_and_back(self):
        each = [told_rule(name, *pair) for name in names() for pair in SIZES]
        for rule in all_rules(2, 2) + all_rules(3, 2) + rules_near_told() + each:
            text = "".join(map(str, rule))
            self.assertEqual(write_rule(rule), text)
            self.assertEqual(read_rule(text), rule)
            self.assertTrue(all(type(item) is int for item in read_rule(text)))

    def test_nearly_texts(self):
        for text in ("0110", "01101001", "012" * 12):
            wrong = [text + " ", " " + text, text + "\n", "\n" + text, text + "0", text[:-1], text[1:], text + text[0],
                     " " + text[1:], text[:-1] + " ", text[:-1] + "\n", text[:2] + " " + text[2:], text[:-1] + "3",
                     "-" + text[1:], text + "\x00", text[:-1] + "9", " ".join(text), text[:2] + " " + text[3:]]
            wrong += [text.replace(figure, other, 1) for figure in "01" for other in STRANGE[figure][:4]]
            wrong += [text.replace(figure, other, 1) for figure in "01" for other in ("O", "-0", "", " ", "a", "3")]
            for nearly in wrong:
                with self.subTest(text=nearly):
                    self.assertRaises(InvalidText, read_rule, nearly)

    def test_texts_of_no_rule(self):
        for text in ("", " ", "0", "01", "011", "01101", "0" * 7, "0" * 9, "0" * 35, "0" * 37, "0" * 16, "0112",
                     "2222", "01101002", "3" * 36, "0" * 35 + "3", "none", "most", "01 10", "(0,1,1,0)", "0" * 100000,
                     "    ", "\n\n\n\n", "boss"):
            with self.subTest(text=text):
                self.assertRaises(InvalidText, read_rule, text)

    def test_wrong_rules(self):
        for rule, index in ((None, None), ([0, 1, 1, 0], None), ("0110", None), ((0, 1, 1), None), ((), None),
                            ((0, 1, 1, 2), 3), ((0, True, 1, 2), 1), ((False, 0, 0, 0), 0), ((0,) * 35 + (3,), 35),
                            (("0", "1", "1", "0"), 0), ({}, None), ((0, 0, 0, 0, 0, 0, -1, 0), 6), (110, None)):
            with self.subTest(rule=rule):
                with self.assertRaises(BadRule) as caught:
                    write_rule(rule)
                self.assertEqual(caught.exception.index, index)


class NoTextTests(unittest.TestCase):
    def test_no_texts(self):
        for value in NO_TEXTS:
            with self.subTest(value=value):
                self.assertRaises(NotText, read_row, value)
                self.assertRaises(NotText, read_rule, value)


if __name__ == "__main__":
    unittest.main()
