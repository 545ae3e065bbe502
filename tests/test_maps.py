import unittest

from tests.helper import AXIOMS, SIZES, WRONG_SETS, WRONG_SIZES, all_rules, all_sets, expected_row, told_clashes
from voteclashes.axioms import axioms, profile
from voteclashes.errors import BadAxioms, BadSize
from voteclashes.maps import (
    can_add, can_hold, clashes, count_rules, greatest_sets, least_clashes, some_rule,
)
from voteclashes.rules import names, size, told_rule


def told_profiles(pair):
    return [set(profile(told_rule(name, *pair))) for name in names()]


class ExampleTests(unittest.TestCase):
    def test_can_hold(self):
        self.assertIs(can_hold(2, 3, ("noboss", "open", "truthful")), False)
        self.assertIs(can_hold(2, 3, ("agreed", "noboss", "pairs")), False)
        self.assertIs(can_hold(2, 3, ("agreed", "open", "pairs", "truthful")), True)

    def test_least_and_greatest(self):
        self.assertEqual((len(least_clashes(2, 3)), len(greatest_sets(2, 3))), (43, 9))
        self.assertEqual(
            clashes(2, 3, ("open", "people", "truthful", "turned")),
            (("people", "turned"), ("open", "people", "truthful")),
        )
        self.assertIsNone(some_rule(2, 2, ("people", "things")))

    def test_counts(self):
        self.assertEqual(count_rules(2, 2, ()), 16)
        self.assertEqual(count_rules(2, 2, ("people",)), 8)
        self.assertEqual(count_rules(3, 2, ("people", "things")), 4)
        self.assertEqual(can_add(2, 2, ("noboss", "things")), ("open", "pairs", "tops", "turned"))
        self.assertRaises(BadSize, count_rules, 2, 3, ())


class WholeMapTests(unittest.TestCase):
    """Every set of axioms at every size, against the document's lists and the told rules' profiles."""

    def test_least_clashes_are_those_of_the_document(self):
        for pair, many in zip(SIZES, (14, 43, 0)):
            self.assertEqual(least_clashes(*pair), told_clashes(*pair))
            self.assertEqual(len(least_clashes(*pair)), many)

    def test_least_clashes_are_least(self):
        for pair in SIZES:
            for clash in least_clashes(*pair):
                with self.subTest(size=pair, clash=clash):
                    self.assertIs(can_hold(*pair, clash), False)
                    for at in range(len(clash)):
                        self.assertIs(can_hold(*pair, clash[:at] + clash[at + 1:]), True)

    def test_greatest_sets(self):
        for pair, many in zip(SIZES, (3, 9, 1)):
            told = told_profiles(pair)
            greatest = {tuple(sorted(one)) for one in told if not any(one < other for other in told)}
            self.assertEqual(greatest_sets(*pair), tuple(sorted(greatest)))
            self.assertEqual(len(greatest_sets(*pair)), many)
            for kept in greatest_sets(*pair):
                self.assertIs(can_hold(*pair, kept), True)
                self.assertEqual(can_add(*pair, kept), ())

    def test_can_hold_and_clashes(self):
        for pair in SIZES:
            listed, told = [(clash, set(clash)) for clash in told_clashes(*pair)], told_profiles(pair)
            for wanted in all_sets():
                among = set(wanted)
                inside = tuple(clash for clash, members in listed if members <= among)
                if (
                    clashes(*pair, wanted) != inside
                    or can_hold(*pair, wanted) is not (inside == ())
                    or can_hold(*pair, wanted) is not any(among <= kept for kept in told)
                ):
                    self.fail((pair, wanted))

    def test_some_rule(self):
        for pair in SIZES:
            profiles = {}
            for wanted in all_sets():
                rule = some_rule(*pair, wanted)
                if can_hold(*pair, wanted):
                    if rule not in profiles:
                        self.assertEqual(size(rule), pair)
                        profiles[rule] = set(profile(rule))
                    self.assertLessEqual(set(wanted), profiles[rule])
                else:
                    self.assertIsNone(rule)

    def test_can_add(self):
        for pair in SIZES:
            for wanted in all_sets()[::3] + list(greatest_sets(*pair)) + list(least_clashes(*pair)):
                further = [axiom for axiom in AXIOMS if axiom not in wanted]
                held = tuple(one for one in further if can_hold(*pair, tuple(sorted(wanted + (one,)))))
                if can_add(*pair, wanted) != held:
                    self.fail((pair, wanted))

    def test_ends(self):
        for pair in SIZES:
            self.assertIs(can_hold(*pair, ()), True)
            self.assertEqual(clashes(*pair, ()), ())
            self.assertEqual(can_add(*pair, ()), AXIOMS)
            self.assertEqual(can_add(*pair, AXIOMS), ())
            self.assertEqual(clashes(*pair, axioms()), least_clashes(*pair))
        self.assertEqual(profile(some_rule(3, 2, AXIOMS)), AXIOMS)
        self.assertEqual(greatest_sets(3, 2), (AXIOMS,))


class CountTests(unittest.TestCase):
    """All rules for two things, one by one, with what they keep worked out by the tests' own means."""

    @classmethod
    def setUpClass(cls):
        cls.kept = {
            pair: [{axiom for axiom in AXIOMS if expected_row(rule, axiom) is None} for rule in all_rules(*pair)]
            for pair in ((2, 2), (3, 2))
        }

    def test_counts(self):
        for pair, each in self.kept.items():
            some = all_sets()[:92] + all_sets()[92::97] + list(greatest_sets(*pair)) + list(least_clashes(*pair))
            for wanted in some:
                with self.subTest(size=pair, wanted=wanted):
                    self.assertEqual(count_rules(*pair, wanted), sum(set(wanted) <= kept for kept in each))

    def test_every_count_for_two_people(self):
        for wanted in all_sets()[::5]:
            if count_rules(2, 2, wanted) != sum(set(wanted) <= kept for kept in self.kept[2, 2]):
                self.fail(wanted)

    def test_can_hold_is_a_count_above_none(self):
        for pair, each in self.kept.items():
            for wanted in all_sets():
                if can_hold(*pair, wanted) is not any(set(wanted) <= kept for kept in each):
                    self.fail((pair, wanted))

    def test_kind_of_value(self):
        self.assertIs(type(count_rules(2, 2, ("people", "things"))), int)
        self.assertEqual(count_rules(2, 2, ("people", "things")), 0)
        self.assertEqual(count_rules(3, 2, ()), 256)


class WrongTests(unittest.TestCase):
    def test_wrong_sizes(self):
        for pair in WRONG_SIZES:
            for call in (greatest_sets, least_clashes):
                with self.subTest(call=call.__name__, size=pair):
                    self.assertRaises(BadSize, call, *pair)
            for call in (can_hold, some_rule, can_add, clashes, count_rules):
                for wanted in ((), ("open",)) + WRONG_SETS[:5]:
                    with self.subTest(call=call.__name__, size=pair, wanted=wanted):
                        self.assertRaises(BadSize, call, *pair, wanted)

    def test_rules_are_counted_for_two_things_only(self):
        for people in (2, 3, 1, True, None, [2]):
            for wanted in ((), ("open",), ("open", "open"), None):
                self.assertRaises(BadSize, count_rules, people, 3, wanted)

    def test_wrong_sets(self):
        for pair in SIZES:
            for wanted in WRONG_SETS:
                for call in (can_hold, some_rule, can_add, clashes, count_rules):
                    if call is not count_rules or pair[1] == 2:
                        with self.subTest(call=call.__name__, size=pair, wanted=wanted):
                            self.assertRaises(BadAxioms, call, *pair, wanted)


if __name__ == "__main__":
    unittest.main()
