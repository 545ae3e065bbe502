import unittest

from tests.helper import SIZES, WRONG, figures, row_of, told_choice
from voteclashes.errors import BadName, BadPerson, BadRow, BadRule, BadSize, NotAlike
from voteclashes.rows import rankings, rows
from voteclashes.rules import bosses, choice, lies, names, size, told_rule

NAMES = ("always", "boss", "both", "low", "most", "next", "pair", "ranks", "third")

TOLD = {
    (2, 2): {
        "always": "0000", "boss": "0011", "both": "0001", "low": "1100", "most": "0001",
        "next": "1100", "pair": "0011", "ranks": "0011", "third": "0001",
    },
    (2, 3): {
        "always": "000000 000000 000000 000000 000000 000000",
        "boss": "000000 000000 111111 111111 222222 222222",
        "both": "000000 000000 001101 001101 000000 001101",
        "low": "222222 111111 222222 000000 111111 000000",
        "most": "000000 000000 001111 001111 001122 001122",
        "next": "111111 111111 222222 222222 000000 000000",
        "pair": "000000 000000 111111 111111 000000 111111",
        "ranks": "000100 000002 101111 111121 022222 221222",
        "third": "002211 002211 221100 221100 110022 110022",
    },
    (3, 2): {
        "always": "00000000", "boss": "00001111", "both": "00000001", "low": "11110000", "most": "00010111",
        "next": "11110000", "pair": "00001111", "ranks": "00010111", "third": "00010111",
    },
}

# Each with the index that the document requires.
WRONG_RULES = [(value, None) for value in WRONG] + [
    (0, None), ("0000", None), ([0, 0, 0, 0], None), ((0,) * 3, None), ((0,) * 5, None), ((0,) * 7, None),
    ((0,) * 9, None), ((0,) * 35, None), ((0,) * 37, None), ((0,) * 16, None), ((5,) * 3, None),
    ({0: 0, 1: 0, 2: 0, 3: 0}, None), ([0] * 36, None), ([0] * 8, None), ((0, [0], 0), None),
    ((True, 0, 0, 0), 0), ((0, False, 0, 0), 1), ((0, 0, 2, 0), 2), ((0, 0, 0, -1), 3), ((0, 0, 2, -1), 2),
    ((0, 1, "0", None), 2), ((0, 0, 0, None), 3), ((0, (0,), 0, 0), 1), (((), 0, 0, 0), 0), ((0, [0], 0, 0), 1),
    ((0, 0, {}, 0), 2), ((10 ** 40, 0, 0, 0), 0), (("", "", "", ""), 0),
    ((0,) * 7 + (2,), 7), ((1,) * 7 + (True,), 7), ((0, 0, 0, 2, 2, 2, 2, 2), 3), ((None,) * 8, 0),
    ((2,) * 35 + (3,), 35), ((2,) * 35 + (True,), 35), ((0, 1, 2, 3) * 9, 3), ((-1,) * 36, 0), ((0, "1") * 18, 1),
]


class BadRuleTests(unittest.TestCase):
    def check(self, call):
        for rule, index in WRONG_RULES:
            with self.subTest(rule=rule):
                with self.assertRaises(BadRule) as caught:
                    call(rule)
                self.assertEqual((caught.exception.index, isinstance(caught.exception.index, bool)), (index, False))

    def test_size(self):
        self.check(size)

    def test_bosses(self):
        self.check(bosses)

    def test_choice(self):
        self.check(lambda rule: choice(rule, ((0, 1), (0, 1))))
        self.check(lambda rule: choice(rule, None))

    def test_lies(self):
        self.check(lambda rule: lies(rule, ((0, 1), (0, 1)), 0))
        self.check(lambda rule: lies(rule, [], None))


class SizeTests(unittest.TestCase):
    def test_lengths(self):
        self.assertEqual(size((0, 1, 1, 0)), (2, 2))
        self.assertEqual(size((0, 1, 2) * 12), (2, 3))
        self.assertEqual(size((0, 1) * 4), (3, 2))
        self.assertEqual(size((2,) * 36), (2, 3))


class ChoiceTests(unittest.TestCase):
    def test_each_row_has_its_item(self):
        for rule in ((0, 0, 0, 1), (0, 1, 0, 0), (0, 1, 1, 1, 0, 0, 1, 0), (0, 1, 2, 2, 0, 1, 1) * 5 + (2,)):
            found = tuple(choice(rule, row) for row in rows(*size(rule)))
            self.assertEqual(found, rule)

    def test_third_row_of_four(self):
        self.assertEqual(choice((0, 0, 1, 0), ((1, 0), (0, 1))), 1)
        self.assertEqual(choice((0, 0, 1, 0), ((0, 1), (1, 0))), 0)

    def test_wrong_rows(self):
        for row in WRONG + (0, ((0, 1), (0, True)), [(0, 1), (0, 1)], ((0, 1, 2), (0, 1)), ((0, 1, 2),) * 3):
            with self.subTest(row=row):
                self.assertRaises(BadRow, choice, (0, 0, 0, 0), row)

    def test_not_alike(self):
        rules = [(0,) * 4, (0,) * 36, (0,) * 8]
        for rule in rules:
            for people, things in SIZES:
                if (people, things) != size(rule):
                    for row in rows(people, things):
                        self.assertRaises(NotAlike, choice, rule, row)


class BossTests(unittest.TestCase):
    def test_told(self):
        for people, things in SIZES:
            for name in NAMES:
                rule = told_rule(name, people, things)
                ruled = name == "boss" or (name in ("pair", "ranks") and rule == told_rule("boss", people, things))
                with self.subTest(name=name, people=people, things=things):
                    self.assertEqual(bosses(rule), (0,) if ruled else ())

    def test_told_by_name(self):
        self.assertEqual(bosses(told_rule("pair", 2, 2)), (0,))
        self.assertEqual(bosses(told_rule("pair", 2, 3)), ())
        self.assertEqual(bosses(told_rule("ranks", 2, 2)), (0,))
        self.assertEqual(bosses(told_rule("ranks", 3, 2)), ())

    def test_other_people(self):
        self.assertEqual(bosses((0, 1, 0, 1)), (1,))
        self.assertEqual(bosses((0, 0, 1, 1, 0, 0, 1, 1)), (1,))
        self.assertEqual(bosses((0, 1, 0, 1, 0, 1, 0, 1)), (2,))
        self.assertEqual(bosses((0, 0, 1, 1, 2, 2) * 6), (1,))

    def test_one_row_is_enough_against(self):
        boss = told_rule("boss", 2, 3)
        for index in range(36):
            other = boss[:index] + ((boss[index] + 1) % 3,) + boss[index + 1:]
            self.assertEqual(bosses(other), ())


class LieTests(unittest.TestCase):
    def test_by_trying_all(self):
        rules = [told_rule(name, *pair) for pair in SIZES for name in NAMES]
        rules += [(0, 1, 1, 0), (1, 0, 0, 1), (1, 0, 1, 0), (1, 0, 0, 1, 0, 1, 1, 0), (2, 0, 1, 1, 2, 0, 2) * 5 + (1,)]
        for rule in rules:
            people, things = size(rule)
            for row in rows(people, things):
                for person in range(people):
                    with self.subTest(rule=rule, row=row, person=person):
                        self.assertEqual(lies(rule, row, person), self.tried(rule, row, person))

    def tried(self, rule, row, person):
        liked = row[person][:row[person].index(told_choice(rule, row))]
        found = []
        for ranking in rankings(len(row[0])):
            told = list(row)
            told[person] = ranking
            if told_choice(rule, tuple(told)) in liked:
                found.append(ranking)
        return tuple(found)

    def test_told(self):
        most, row = told_rule("most", 2, 3), row_of("102 201")
        self.assertEqual(lies(most, row, 1), ((0, 1, 2), (0, 2, 1)))
        self.assertEqual(lies(most, row, 0), ())
        self.assertEqual(lies(told_rule("low", 2, 2), row_of("01 01"), 0), ((1, 0),))
        self.assertEqual(lies(told_rule("low", 2, 2), row_of("01 01"), 1), ())
        self.assertEqual(lies(told_rule("low", 3, 2), row_of("10 01 01"), 0), ((0, 1),))
        self.assertEqual(lies(told_rule("next", 2, 3), row_of("012 012"), 0), ((2, 0, 1), (2, 1, 0)))

    def test_last_person(self):
        self.assertEqual(lies((1, 0, 0, 0, 0, 0, 0, 0), row_of("01 01 01"), 2), ((1, 0),))
        self.assertEqual(lies((1, 1, 0, 0, 0, 0, 0, 0), row_of("01 01 01"), 2), ())

    def test_wrong_people(self):
        for person in WRONG + (2, 3, "1", (0,), [1]):
            with self.subTest(person=person):
                self.assertRaises(BadPerson, lies, (0,) * 4, row_of("01 01"), person)
                self.assertRaises(BadPerson, lies, (0,) * 36, row_of("012 012"), person)
        for person in WRONG + (3, 4):
            with self.subTest(person=person):
                self.assertRaises(BadPerson, lies, (0,) * 8, row_of("01 01 01"), person)

    def test_order_of_errors(self):
        rule, row = (0,) * 4, row_of("01 01")
        self.assertRaises(BadRow, lies, rule, None, 0)
        self.assertRaises(BadRow, lies, rule, [row], None)
        self.assertRaises(BadRow, lies, rule, ((0, 1), (0, True)), 7)
        self.assertRaises(NotAlike, lies, rule, row_of("012 012"), 0)
        self.assertRaises(NotAlike, lies, rule, row_of("012 012"), 2)
        self.assertRaises(NotAlike, lies, rule, row_of("01 01 01"), 2)
        self.assertRaises(NotAlike, lies, rule, row_of("01 01 01"), None)
        self.assertRaises(NotAlike, lies, (0,) * 8, row, True)


class ToldRuleTests(unittest.TestCase):
    def test_names(self):
        self.assertEqual(names(), NAMES)

    def test_tables(self):
        for (people, things), told in TOLD.items():
            self.assertEqual(tuple(sorted(told)), NAMES)
            for name, text in told.items():
                with self.subTest(name=name, people=people, things=things):
                    rule = told_rule(name, people, things)
                    self.assertEqual(rule, figures(text))
                    self.assertEqual(size(rule), (people, things))

    def test_examples(self):
        most, row = told_rule("most", 2, 3), ((1, 0, 2), (2, 0, 1))
        self.assertEqual(choice(most, row), 1)
        self.assertEqual(size(most), (2, 3))
        self.assertEqual(bosses(told_rule("boss", 2, 3)), (0,))
        found = [choice(told_rule(name, 2, 3), row) for name in ("always", "low", "next", "ranks", "third")]
        self.assertEqual(found, [0, 2, 2, 1, 0])
        self.assertEqual(told_rule("low", 2, 2), (1, 1, 0, 0))
        self.assertRaises(NotAlike, choice, most, ((0, 1), (0, 1)))

    def test_wrong_names(self):
        for name in WRONG + (0, "most ", "all", ["most"], NAMES, b"most"):
            with self.subTest(name=name):
                self.assertRaises(BadName, told_rule, name, 2, 2)
                self.assertRaises(BadName, told_rule, name, None, 9)

    def test_wrong_sizes(self):
        wrong = ((3, 3), (1, 2), (2, 1), (2, 4), (4, 2), (True, 2), (2, True), ("2", 2), (2, None), ((2, 2), 2))
        for name in NAMES:
            for pair in wrong:
                with self.subTest(name=name, pair=pair):
                    self.assertRaises(BadSize, told_rule, name, *pair)
        for value in WRONG:
            self.assertRaises(BadSize, told_rule, "most", value, 2)
            self.assertRaises(BadSize, told_rule, "most", 2, value)


if __name__ == "__main__":
    unittest.main()
