import copy
import unittest
from functools import lru_cache
from itertools import permutations

from tests.helper import (
    AXIOMS, SIZES, SO_AT, WRONG, WRONG_SETS, WRONG_SIZES, all_sets, raised, row_of, told_clashes, with_ranking,
)
from voteclashes.errors import BadAxioms, BadSize
from voteclashes.maps import can_hold, clashes, greatest_sets
from voteclashes.papers import paper, shows_clash
from voteclashes.rows import rankings, rows

# What follows up to the first test class works papers out a second time, from the document's words.


def growing_reasons(row, thing):
    """Other rows, each with the only things that may be chosen there if the thing is chosen here."""
    return [(with_ranking(row, person, better), {thing}) for person in range(len(row))
            for better in raised(row[person], thing)]


def pairs_reasons(row, thing):
    found = []
    for other in rows(len(row), len(row[0])):
        good = {chosen for chosen in row[0] if chosen == thing or any(
            (mine.index(thing) < mine.index(chosen)) != (its.index(thing) < its.index(chosen))
            for mine, its in zip(row, other))}
        found.append((other, good))
    return found


def people_reasons(row, thing):
    return [(other, {thing}) for other in permutations(row)]


def things_reasons(row, thing):
    return [(tuple(tuple(new[item] for item in ranking) for ranking in row), {new[thing]})
            for new in permutations(range(len(row[0])))]


def tops_reasons(row, thing):
    each = rows(len(row), len(row[0]))
    return [(other, {thing}) for other in each if all(mine[0] == its[0] for mine, its in zip(row, other))]


def truthful_reasons(row, thing):
    return [(with_ranking(row, person, told), set(ranking[ranking.index(thing):]))
            for person, ranking in enumerate(row) for told in rankings(len(ranking))]


def turned_reasons(row, thing):
    return [(tuple(ranking[::-1] for ranking in row), set(row[0]) - {thing})]


REASONS = {
    "growing": growing_reasons, "pairs": pairs_reasons, "people": people_reasons, "things": things_reasons,
    "tops": tops_reasons, "truthful": truthful_reasons, "turned": turned_reasons,
}


@lru_cache(maxsize=None)
def against_by(axiom, pair):
    """All pairs of a row with a thing that go against each other by an axiom, both ways round."""
    found = set()
    for row in rows(*pair):
        for thing in range(pair[1]):
            for other, good in REASONS[axiom](row, thing):
                for chosen in set(range(pair[1])) - good:
                    if other != row:
                        found |= {((row, thing), (other, chosen)), ((other, chosen), (row, thing))}
    return found


def first_left(pair, wanted):
    alone = [axiom for axiom in wanted if axiom in ("agreed", "beats", "best", "bottom")]
    return {row: [thing for thing in range(pair[1]) if all(SO_AT[axiom]({row: thing}, row) for axiom in alone)]
            for row in rows(*pair)}


def close(left, foes):
    """Strike one thing at a time, from the last row to the first."""
    left, again = {row: list(left[row]) for row in left}, True
    while again:
        again = False
        for row in reversed(left):
            for thing in left[row][::-1]:
                if any(all((other, one) in foes.get((row, thing), ()) for one in left[other])
                       for other in left if other != row):
                    left[row].remove(thing)
                    again = True
    return left


def is_empty(left, pair, wanted):
    things = [thing for row in left for thing in left[row]]
    return (
        any(left[row] == [] for row in left)
        or ("open" in wanted and set(things) != set(range(pair[1])))
        or ("noboss" in wanted and any(
            all(left[row] == [row[person][0]] for row in left) for person in range(pair[0])))
    )


@lru_cache(maxsize=None)
def foes_of(pair, wanted):
    found = {}
    for axiom in wanted:
        if axiom in REASONS:
            for one, other in against_by(axiom, pair):
                found.setdefault(one, set()).add(other)
    return found


def write_paper(pair, wanted, pick, left=None):
    """A paper that branches at the row that is picked among those with several things left, None if there is none."""
    now = close(first_left(pair, wanted) if left is None else left, foes_of(pair, wanted))
    if is_empty(now, pair, wanted):
        return ()
    several = [row for row in now if len(now[row]) > 1]
    if not several:
        return None
    row, parts = pick(several), []
    for thing in now[row]:
        parts.append(write_paper(pair, wanted, pick, {**now, row: [thing]}))
        if parts[-1] is None:
            return None
    return row, tuple(parts)


def is_paper(pair, wanted, value, left=None):
    """Whether a value, made of tuples and integers throughout, is a paper."""
    now = close(first_left(pair, wanted) if left is None else left, foes_of(pair, wanted))
    if is_empty(now, pair, wanted) or value == ():
        return is_empty(now, pair, wanted) and value == ()
    if len(value) != 2 or value[0] not in now or len(now[value[0]]) < 2 or len(value[1]) != len(now[value[0]]):
        return False
    return all(is_paper(pair, wanted, part, {**now, value[0]: [thing]}) for thing, part in zip(now[value[0]], value[1]))


def changed(value):
    """Values of tuples and integers that differ from a paper at one place."""
    if value == ():
        return [(((0, 1, 2), (0, 1, 2)), ((), ())), (((0, 1), (0, 1)), ((), ())), ((),), ((), ())]
    row, parts = value
    found = [(), (row,), parts, (row, parts, ()), (parts, row), (row, ()), (row, parts[1:]), (row, parts[:-1]),
             (row, parts + ((),)), (row, ((),) + parts), (row, parts[::-1]), (row, (parts,)), (row, (value,) * 3)]
    found += [(other, parts) for other in rows(len(row), len(row[0])) if other != row]
    for at, part in enumerate(parts):
        found += [(row, parts[:at] + (other,) + parts[at + 1:]) for other in changed(part)]
    return found


def with_lists(value):
    """The same paper with a list in place of one of its tuples."""
    if value == ():
        return [[]]
    row, parts = value
    found = [[row, parts], (row, list(parts)), (list(row), parts), (tuple(list(ranking) for ranking in row), parts),
             ((list(row[0]),) + row[1:], parts)]
    for at, part in enumerate(parts):
        found += [(row, parts[:at] + (other,) + parts[at + 1:]) for other in with_lists(part)]
    return found


def with_truths(row):
    """The row with True or False in place of 1 or 0, once in each place and everywhere."""
    truth = {0: False, 1: True, 2: 2}
    found = [tuple(tuple(truth[item] for item in ranking) for ranking in row)]
    for person, ranking in enumerate(row):
        for at, item in enumerate(ranking):
            if item < 2:
                found.append(with_ranking(row, person, ranking[:at] + (truth[item],) + ranking[at + 1:]))
    return found


BEYOND = [wanted for wanted in all_sets()[300::113] if not can_hold(2, 3, wanted)] + [AXIOMS]


class ExampleTests(unittest.TestCase):
    def test_examples(self):
        self.assertEqual(paper(2, 2, ("people", "turned")), ())
        self.assertIs(shows_clash(2, 2, ("people", "turned"), ()), True)
        self.assertIsNone(paper(2, 3, ("agreed", "people")))
        wanted = ("agreed", "noboss", "pairs")
        self.assertIs(shows_clash(2, 3, wanted, ()), False)
        self.assertIs(shows_clash(2, 3, wanted, paper(2, 3, wanted)), True)
        self.assertRaises(BadAxioms, paper, 2, 3, ("pairs", "noboss"))


class PaperTests(unittest.TestCase):
    def check_paper(self, pair, wanted):
        with self.subTest(size=pair, wanted=wanted):
            value = paper(*pair, wanted)
            self.assertIsInstance(value, tuple)
            self.assertTrue(is_paper(pair, wanted, value))
            self.assertIs(shows_clash(*pair, wanted, value), True)

    def test_each_least_clash(self):
        for pair in SIZES:
            for wanted in told_clashes(*pair):
                self.check_paper(pair, wanted)

    def test_sets_beyond_the_least_clashes(self):
        self.assertGreater(len(BEYOND), 40)
        for wanted in BEYOND:
            self.check_paper((2, 3), wanted)
        for wanted in all_sets()[::11]:
            if clashes(2, 2, wanted):
                self.check_paper((2, 2), wanted)

    def test_none_if_some_rule_keeps_them_all(self):
        for pair in SIZES:
            for wanted in all_sets()[:92:3] + all_sets()[::401] + list(greatest_sets(*pair)):
                if can_hold(*pair, wanted):
                    with self.subTest(size=pair, wanted=wanted):
                        self.assertIsNone(paper(*pair, wanted))


class OtherPapersTests(unittest.TestCase):
    """Papers that the package would not write itself, but that are papers all the same."""

    def test_any_row_with_several_things_left_will_do(self):
        met = 0
        for pick in (max, lambda several: several[len(several) // 2]):
            for wanted in told_clashes(2, 3):
                value = write_paper((2, 3), wanted, pick)
                met += value != paper(2, 3, wanted)
                with self.subTest(wanted=wanted):
                    self.assertIs(shows_clash(2, 3, wanted, value), True)
        self.assertGreater(met, 10)

    def test_each_first_row_for_one_clash(self):
        wanted = ("open", "people", "truthful")
        at_first = close(first_left((2, 3), wanted), foes_of((2, 3), wanted))
        for row in rows(2, 3)[::5]:
            parts = tuple(
                write_paper((2, 3), wanted, min, {**at_first, row: [thing]}) for thing in at_first[row])
            with self.subTest(row=row):
                self.assertIs(shows_clash(2, 3, wanted, (row, parts)), len(at_first[row]) > 1)


class NearlyPapersTests(unittest.TestCase):
    def test_changed_at_one_place(self):
        papers, shown = 0, 0
        for wanted in told_clashes(2, 3)[::9] + (("open", "people", "truthful"),):
            value = paper(2, 3, wanted)
            for other in changed(value)[:13] + changed(value)[13::11]:
                expected = is_paper((2, 3), wanted, other)
                papers, shown = papers + 1, shown + expected
                with self.subTest(wanted=wanted, value=other):
                    self.assertIs(shows_clash(2, 3, wanted, other), expected)
        self.assertGreater(papers - shown, 80)

    def test_branches(self):
        wanted = ("agreed", "noboss", "pairs")
        row, parts = paper(2, 3, wanted)
        self.assertGreater(len(parts), 1)
        for value in ((row, parts[1:]), (row, parts[:-1]), (row, parts + ((),)), (row, parts + parts[:1]), (row, ()),
                      (row,), (row, parts, ()), parts, row, (parts, row), ((row, parts),), (row, (parts,))):
            with self.subTest(value=value):
                self.assertIs(shows_clash(2, 3, wanted, value), False)

    def test_branches_out_of_order(self):
        met = 0
        for wanted in told_clashes(2, 3):
            value = paper(2, 3, wanted)
            if value != () and not is_paper((2, 3), wanted, (value[0], value[1][::-1])):
                met += 1
                self.assertIs(shows_clash(2, 3, wanted, (value[0], value[1][::-1])), False)
        self.assertGreater(met, 0)

    def test_a_row_for_which_one_thing_is_left(self):
        wanted = ("agreed", "noboss", "pairs")
        row = row_of("012 012")
        for parts in ((), ((),), ((), ()), (paper(2, 3, wanted),), paper(2, 3, wanted)[1]):
            self.assertIs(shows_clash(2, 3, wanted, (row, parts)), False)

    def test_a_pair_where_it_is_empty(self):
        for parts in ((), ((),), ((), ()), ((), (), ())):
            for row in rows(2, 3)[::7]:
                self.assertIs(shows_clash(2, 3, ("people", "turned"), (row, parts)), False)
            for row in rows(2, 2):
                self.assertIs(shows_clash(2, 2, ("people", "turned"), (row, parts)), False)

    def test_rows_that_are_none(self):
        wanted = ("agreed", "noboss", "pairs")
        row, parts = paper(2, 3, wanted)
        for other in list(WRONG) + with_truths(row) + [row[::-1] + row, row[:1], row_of("01 10"), row_of("01 01 10"),
                                                 row_of("012 013"), "012 021", 1, list(row)]:
            with self.subTest(row=other):
                self.assertIs(shows_clash(2, 3, wanted, (other, parts)), False)

    def test_lists_in_place_of_tuples(self):
        for wanted in told_clashes(2, 3)[::5] + (("open", "people", "truthful"),):
            for value in with_lists(paper(2, 3, wanted)):
                with self.subTest(wanted=wanted, value=value):
                    self.assertIs(shows_clash(2, 3, wanted, value), False)

    def test_values_of_other_kinds(self):
        for wanted in (("people", "turned"), ("agreed", "noboss", "pairs")):
            for value in WRONG + (0, 1, "()", [()], {(): ()}, ("", ""), (None, ()), ((), None), (True, False)):
                with self.subTest(wanted=wanted, value=value):
                    given = copy.deepcopy(value)
                    self.assertIs(shows_clash(2, 3, wanted, given), wanted == ("people", "turned") and value == ())
                    self.assertEqual(given, value)

    def test_deep_and_round_values(self):
        deep, round_list = (), []
        row = row_of("012 021")
        for _ in range(20000):
            deep = (row, (deep, deep, deep))
        round_list.append(round_list)
        for wanted in (("people", "turned"), ("agreed", "noboss", "pairs"), ("open",), ()):
            for value in (deep, round_list, (row, round_list), (row, (round_list, deep)), (deep, deep), (deep, ())):
                self.assertIs(shows_clash(2, 3, wanted, value), False)

    def test_papers_of_another_size_or_set(self):
        papers = [(other, paper(2, 3, other)) for other in told_clashes(2, 3)[::6]]
        for wanted in told_clashes(2, 3)[1::5]:
            for other, value in papers:
                expected = is_paper((2, 3), wanted, value)
                with self.subTest(wanted=wanted, other=other):
                    self.assertIs(shows_clash(2, 3, wanted, value), expected)
        for wanted, value in papers:
            self.assertIs(shows_clash(3, 2, wanted, value), False)
            self.assertIs(shows_clash(2, 2, wanted, value), is_paper((2, 2), wanted, value))
        self.assertIs(shows_clash(3, 2, ("people", "turned"), paper(2, 2, ("people", "turned"))), False)

    def test_a_thing_left_nowhere_matters_if_open_is_wanted(self):
        value = (rows(2, 3)[2], ((), (), ()))
        self.assertIs(shows_clash(2, 3, ("pairs", "people", "tops"), value), False)
        self.assertTrue(is_paper((2, 3), ("open", "pairs", "people", "tops"), value))
        self.assertIs(shows_clash(2, 3, ("open", "pairs", "people", "tops"), value), True)

    def test_sets_that_some_rule_keeps(self):
        values = [()] + [paper(2, 3, wanted) for wanted in told_clashes(2, 3)[::6]]
        values += [(rows(*pair)[1], ((),) * many) for pair in SIZES for many in (1, 2, 3)]
        for pair in SIZES:
            for wanted in ((), ("open",), ("noboss",), ("agreed",)) + greatest_sets(*pair)[:4]:
                for value in values[::2] + [None]:
                    with self.subTest(size=pair, wanted=wanted, value=value):
                        self.assertIs(shows_clash(*pair, wanted, value), False)


class WrongTests(unittest.TestCase):
    def test_wrong_sizes(self):
        for pair in WRONG_SIZES:
            for wanted in (("people", "turned"), ()) + WRONG_SETS[:4]:
                with self.subTest(size=pair, wanted=wanted):
                    self.assertRaises(BadSize, paper, *pair, wanted)
                    self.assertRaises(BadSize, shows_clash, *pair, wanted, ())
                    self.assertRaises(BadSize, shows_clash, *pair, wanted, None)

    def test_wrong_sets(self):
        for pair in SIZES:
            for wanted in WRONG_SETS:
                with self.subTest(size=pair, wanted=wanted):
                    self.assertRaises(BadAxioms, paper, *pair, wanted)
                    self.assertRaises(BadAxioms, shows_clash, *pair, wanted, ())
                    self.assertRaises(BadAxioms, shows_clash, *pair, wanted, [])


if __name__ == "__main__":
    unittest.main()
