import unittest

from tests.helper import AXIOMS, WRONG, all_rules, expected_row, row_of, rules_near_told
from voteclashes.axioms import axioms, breaking_row, keeps, profile
from voteclashes.errors import BadAxiom, BadRule
from voteclashes.rules import names, told_rule

ALL_BUT_TWO = "agreed beats best bottom growing open pairs things tops truthful turned"
EVEN = "agreed beats best bottom growing noboss open pairs people tops truthful"
FIXED = "growing noboss pairs people tops truthful"
LAST = "noboss open pairs things tops turned"
ONE_OF_THREE = "agreed best growing open pairs things tops truthful turned"

PROFILES = {
    (2, 2): {
        "always": FIXED, "boss": ALL_BUT_TWO, "both": EVEN, "low": LAST, "most": EVEN,
        "next": LAST, "pair": ALL_BUT_TWO, "ranks": ALL_BUT_TWO, "third": EVEN,
    },
    (2, 3): {
        "always": FIXED,
        "boss": ALL_BUT_TWO,
        "both": "bottom growing noboss pairs people truthful",
        "low": "noboss open pairs things turned",
        "most": "agreed beats best bottom growing noboss open people tops",
        "next": "noboss open tops turned",
        "pair": "bottom growing noboss pairs truthful turned",
        "ranks": "agreed beats best bottom growing noboss open things turned",
        "third": "agreed beats noboss open people things tops",
    },
    (3, 2): {
        "always": FIXED, "boss": ONE_OF_THREE, "low": LAST, "most": " ".join(AXIOMS), "next": LAST,
        "both": "agreed best growing noboss open pairs people tops truthful",
        "pair": ONE_OF_THREE, "ranks": " ".join(AXIOMS), "third": " ".join(AXIOMS),
    },
}


class AxiomsTests(unittest.TestCase):
    def test_names(self):
        self.assertEqual(axioms(), AXIOMS)
        self.assertEqual(AXIOMS, tuple(sorted(AXIOMS)))


class EachAxiomTests(unittest.TestCase):
    def check(self, axiom, kept, broken):
        for rule in kept:
            with self.subTest(axiom=axiom, rule=rule):
                self.assertIsNone(breaking_row(rule, axiom))
                self.assertIs(keeps(rule, axiom), True)
                self.assertIn(axiom, profile(rule))
        for rule, text in broken:
            with self.subTest(axiom=axiom, rule=rule):
                self.assertEqual(breaking_row(rule, axiom), row_of(text))
                self.assertIs(keeps(rule, axiom), False)
                self.assertNotIn(axiom, profile(rule))

    def test_agreed(self):
        self.check("agreed", [(0, 0, 0, 1), (0, 1, 1, 1), told_rule("third", 2, 3)], [
            ((1, 1, 0, 0), "01 01"), ((0, 0, 0, 0), "10 10"), ((0,) * 8, "10 10 10"), ((0,) * 36, "102 102"),
            ((0,) * 14 + (1,) * 22, "201 201"), ((0,) * 15 + (1,) * 21, "102 102"), ((0, 0) + (1,) * 34, "021 012"),
        ])

    def test_beats(self):
        self.check("beats", [told_rule("most", 3, 2), told_rule("boss", 2, 3), (0, 1, 0, 1)], [
            ((0,) * 8, "01 10 10"), ((0, 0, 0, 1, 1, 1, 1, 1), "10 01 01"), (told_rule("both", 2, 3), "201 201"),
            ((0, 1, 1, 0), "10 10"),
        ])

    def test_best(self):
        self.check("best", [told_rule("boss", 2, 3), (0, 1, 0, 1), (0,) * 7 + (1,)], [
            ((0,) * 4, "10 10"), (told_rule("third", 2, 3), "012 102"), ((0,) * 8, "10 10 10"),
            ((0,) * 36, "102 102"), ((1,) * 8, "01 01 01"),
        ])

    def test_bottom(self):
        # Of two people more than half are both; of three, two.
        self.check("bottom", [told_rule("both", 2, 3), (0, 1, 0, 1), told_rule("most", 3, 2)], [
            ((0,) * 4, "10 10"), ((0,) * 8, "01 10 10"), ((0,) * 36, "120 120"), (told_rule("low", 2, 3), "012 012"),
            (told_rule("boss", 3, 2), "01 10 10"), (told_rule("next", 2, 3), "021 021"),
        ])

    def test_growing(self):
        self.check("growing", [told_rule("ranks", 2, 3), (0, 0, 0, 0), (0, 1, 1, 1)], [
            ((0, 1, 1, 0), "01 10"), ((1, 1, 0, 0), "01 01"), ((1, 0, 0, 0), "01 01"),
            ((0, 0, 0, 1, 0, 0, 0, 0), "01 10 10"), (told_rule("low", 2, 3), "012 012"),
        ])

    def test_growing_by_several_places(self):
        # The last thing is chosen until it is moved to the very front, past the thing between.
        rule = list((2,) * 36)
        rule[24] = 0
        self.check("growing", [], [(tuple(rule), "012 012")])

    def test_noboss(self):
        self.check("noboss", [told_rule("low", 2, 3), (0, 0, 0, 1), (0,) * 8], [
            ((0, 0, 1, 1), ""), ((0, 1, 0, 1), ""), ((0, 1) * 4, ""), (told_rule("boss", 2, 3), ""),
        ])

    def test_open(self):
        self.check("open", [(0, 0, 0, 1), (0, 1, 2) * 12, (1, 0, 0, 0, 0, 0, 0, 0)], [
            ((0,) * 4, ""), ((1,) * 4, ""), ((0, 1) * 18, ""), ((1, 2) * 18, ""), ((1,) * 8, ""),
        ])

    def test_pairs(self):
        self.check("pairs", [told_rule("low", 2, 3), told_rule("pair", 2, 3)] + all_rules(2, 2) + all_rules(3, 2), [
            (told_rule("ranks", 2, 3), "012 102"), (told_rule("next", 2, 3), "012 012"),
            (told_rule("third", 2, 3), "012 012"), ((0,) * 35 + (1,), "102 102"),
        ])

    def test_people(self):
        self.check("people", [(0, 0, 0, 1), (1, 0, 0, 0), told_rule("third", 2, 3), (0, 1, 1, 0, 1, 0, 0, 1)], [
            ((0, 0, 1, 1), "01 10"), ((0, 0, 0, 1, 0, 1, 0, 1), "01 10 10"), ((0, 1, 0, 0, 0, 0, 0, 0), "01 01 10"),
            ((0, 1, 1, 0, 0, 0, 0, 0), "01 01 10"), (told_rule("ranks", 2, 3), "012 102"),
        ])

    def test_things(self):
        self.check("things", [(0, 1, 0, 1), (1, 0, 1, 0), told_rule("third", 2, 3), told_rule("ranks", 2, 3)], [
            ((0, 0, 0, 1), "01 10"), ((0, 0, 0, 0), "01 01"), (told_rule("most", 2, 3), "012 102"),
            ((0, 0, 0, 0, 0, 1, 1, 1), "01 10 10"),
        ])

    def test_tops(self):
        self.check("tops", [told_rule("most", 2, 3), told_rule("third", 2, 3)] + all_rules(2, 2) + all_rules(3, 2), [
            (told_rule("low", 2, 3), "012 012"), (told_rule("ranks", 2, 3), "012 102"),
            (told_rule("pair", 2, 3), "201 012"), ((0,) * 35 + (1,), "201 201"),
        ])

    def test_truthful(self):
        self.check("truthful", [(0, 0, 0, 1), told_rule("boss", 2, 3), told_rule("most", 3, 2), (2,) * 36], [
            ((1, 1, 0, 0), "01 01"), ((0, 1, 1, 0), "01 10"), ((0, 0, 0, 0, 0, 0, 1, 0), "10 10 01"),
            ((1, 0, 0, 0, 0, 0, 0, 0), "01 01 01"), (told_rule("most", 2, 3), "102 201"),
        ])

    def test_turned(self):
        self.check("turned", [(0, 0, 1, 1), told_rule("low", 2, 3), (0, 1, 0, 0, 1, 1, 0, 1)], [
            ((0, 0, 0, 1), "01 10"), ((1, 0, 1, 1), "01 01"), ((0, 1, 0, 1, 1, 0, 1, 1), "01 01 10"),
            (told_rule("most", 2, 3), "012 120"),
        ])

    def test_examples(self):
        even, low = (0, 0, 0, 1), (1, 1, 0, 0)
        self.assertEqual(len(axioms()), 13)
        self.assertEqual(profile(low), ("noboss", "open", "pairs", "things", "tops", "turned"))
        self.assertIs(keeps(even, "people"), True)
        self.assertIs(keeps(even, "things"), False)
        self.assertEqual(breaking_row(even, "things"), ((0, 1), (1, 0)))
        self.assertEqual(breaking_row(low, "agreed"), ((0, 1), (0, 1)))
        self.assertEqual(breaking_row((0, 0, 1, 1), "noboss"), ())
        self.assertIsNone(breaking_row(even, "open"))
        self.assertRaises(BadAxiom, keeps, even, "fair")


class TriedTests(unittest.TestCase):
    def check(self, rules):
        for rule in rules:
            for axiom in AXIOMS:
                with self.subTest(rule=rule, axiom=axiom):
                    self.assertEqual(breaking_row(rule, axiom), expected_row(rule, axiom))

    def test_two_people_two_things(self):
        self.check(all_rules(2, 2))

    def test_three_people(self):
        self.check(all_rules(3, 2))

    def test_told_rules_for_three_things(self):
        self.check([told_rule(name, 2, 3) for name in names()])

    def test_rules_near_told_ones(self):
        self.check(rules_near_told())


class ProfileTests(unittest.TestCase):
    def test_told_rules(self):
        for (people, things), told in PROFILES.items():
            self.assertEqual(tuple(sorted(told)), names())
            for name, text in told.items():
                with self.subTest(name=name, people=people, things=things):
                    self.assertEqual(profile(told_rule(name, people, things)), tuple(text.split()))

    def test_profile_is_what_is_kept(self):
        for rule in all_rules(2, 2) + all_rules(3, 2)[::7]:
            self.assertEqual(profile(rule), tuple(axiom for axiom in AXIOMS if keeps(rule, axiom)))


class WrongTests(unittest.TestCase):
    def test_wrong_axioms(self):
        for axiom in WRONG + (0, 5, "agreed ", "Open", ["open"], AXIOMS, ("open",), "most"):
            with self.subTest(axiom=axiom):
                for rule in ((0,) * 4, (0,) * 36, (0,) * 8):
                    self.assertRaises(BadAxiom, keeps, rule, axiom)
                    self.assertRaises(BadAxiom, breaking_row, rule, axiom)

    def test_wrong_rules(self):
        wrong = [(value, None) for value in WRONG] + [
            ([0, 0, 0, 0], None), ((0,) * 5, None), ((0, 0, True, 0), 2), ((0, 2, 3, 0), 1), ((0,) * 35 + (3,), 35),
            ((0,) * 6 + ([], 2), 6),
        ]
        calls = [profile] + [lambda rule, axiom=axiom: keeps(rule, axiom) for axiom in AXIOMS]
        calls += [lambda rule, axiom=axiom: breaking_row(rule, axiom) for axiom in AXIOMS]
        for rule, index in wrong:
            for call in calls:
                with self.subTest(rule=rule):
                    with self.assertRaises(BadRule) as caught:
                        call(rule)
                    self.assertEqual(caught.exception.index, index)

    def test_rule_before_axiom(self):
        for axiom in WRONG:
            self.assertRaises(BadRule, keeps, None, axiom)
            self.assertRaises(BadRule, breaking_row, (0, 0, 0, True), axiom)


if __name__ == "__main__":
    unittest.main()
