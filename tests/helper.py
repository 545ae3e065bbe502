"""What several test files use."""

from itertools import combinations, permutations

from voteclashes.rows import rows
from voteclashes.rules import names, size, told_rule

SIZES = ((2, 2), (2, 3), (3, 2))

AXIOMS = (
    "agreed", "beats", "best", "bottom", "growing", "noboss", "open",
    "pairs", "people", "things", "tops", "truthful", "turned",
)

# None of these is an ascending tuple of different axioms.
WRONG_SETS = (
    None, True, False, 0, "", "open", "noboss open", ["noboss", "open"], [], {}, {"open": True}, (True,), (None,),
    ("pairs", "noboss"), ("open", "open"), ("noboss", "open", "open"), ("noboss", "fair"), ("fair",), ("Open",),
    ("open ",), ("",), ((),), (("noboss", "open"),), (["open"],), ({},), (0,), ("noboss", 5), ("turned", "agreed"),
    AXIOMS[::-1], AXIOMS + ("turned",), ("agreed",) + AXIOMS, list(AXIOMS), AXIOMS + ("unanimous",), (AXIOMS,),
)

# Pairs of numbers, or what stands in their place, that are none of the sizes.
WRONG_SIZES = (
    (3, 3), (1, 2), (2, 1), (0, 0), (2, 4), (4, 2), (-2, 2), (2, -2), (True, 2), (2, True), (2, False), (None, 2),
    (2, None), ("2", 2), (2, "2"), ((2,), 2), (2, [2]), ({}, {}), ([2, 2], 2), (2, (2, 3)), (10 ** 40, 2), (3, ()),
)

# Values of every kind; none of them is a row, a rule, a name, a person, an axiom or a number of things.
WRONG = (
    None, True, False, "", "0", "01 10", "Most", "fair", -1, 10 ** 40, (), ((),), ((), ()), (None,), ("most",),
    [], [0], [[0, 1], [0, 1]], [(0, 1), (0, 1)], {}, {0: 1}, {"most": 1}, ((0, 1), [0, 1]),
)


def figures(text):
    """The tuple of the figures of a text, blanks aside."""
    return tuple(int(figure) for figure in text if figure != " ")


def row_of(text):
    """The row of a text like "012 210"."""
    return tuple(figures(word) for word in text.split())


def told_choice(rule, row):
    """What a rule chooses, looked up by this file's own means."""
    return dict(zip(rows(len(row), len(row[0])), rule))[row]


# The document's own lists of the least clashes.
CLASHES = {
    (2, 2): """people things; people turned; agreed noboss things; agreed noboss turned; beats noboss things;
        beats noboss turned; best noboss things; best noboss turned; bottom noboss things; bottom noboss turned;
        growing noboss things; growing noboss turned; noboss things truthful; noboss truthful turned""",
    (2, 3): """people turned; agreed noboss pairs; agreed noboss truthful; agreed pairs people;
        agreed people truthful; beats noboss pairs; beats noboss truthful; beats pairs people;
        beats people truthful; best noboss pairs; best noboss truthful; best pairs people; best people things;
        best people truthful; bottom people things; growing people things; noboss open truthful;
        noboss things truthful; open pairs people; open people truthful; pairs people things;
        people things truthful; agreed noboss tops turned; beats noboss tops turned; best noboss things tops;
        best noboss tops turned; bottom noboss open pairs; bottom noboss pairs things; bottom noboss pairs tops;
        bottom noboss things tops; bottom noboss tops truthful; bottom noboss tops turned;
        bottom pairs people tops; bottom people tops truthful; growing noboss open pairs;
        growing noboss pairs things; growing noboss things tops; growing noboss tops turned;
        noboss open pairs tops; noboss pairs things tops; noboss pairs tops turned;
        noboss things tops turned; noboss tops truthful turned""",
    (3, 2): "",
}


def told_clashes(people, things):
    """The document's tuple of the least clashes of a size."""
    return tuple(tuple(words.split()) for words in CLASHES[people, things].split(";") if words)


def all_sets():
    """The 8,192 sets of axioms, each an ascending tuple, the smaller ones first."""
    return [wanted for many in range(len(AXIOMS) + 1) for wanted in combinations(AXIOMS, many)]


def with_ranking(row, person, ranking):
    return row[:person] + (ranking,) + row[person + 1:]


def raised(ranking, thing):
    """All rankings in which the thing stands further ahead, all others keeping their order."""
    others = [item for item in ranking if item != thing]
    return [tuple(others[:at] + [thing] + others[at:]) for at in range(ranking.index(thing))]


def agreed_so(table, row):
    return any(ranking[0] != row[0][0] for ranking in row) or table[row] == row[0][0]


def majority(row, thing, other):
    return sum(1 if ranking.index(thing) < ranking.index(other) else -1 for ranking in row) > 0


def beats_so(table, row):
    winners = [one for one in row[0] if all(one == two or majority(row, one, two) for two in row[0])]
    return not winners or table[row] in winners


def best_so(table, row):
    shared = set(row[0])
    for ranking in row:
        shared &= set(ranking[:ranking.index(table[row])])
    return not shared


def bottom_so(table, row):
    last = sum(1 if ranking[-1] == table[row] else -1 for ranking in row)
    return last <= 0


def growing_so(table, row):
    return all(
        table[with_ranking(row, person, better)] == table[row]
        for person in range(len(row)) for better in raised(row[person], table[row])
    )


def pairs_so(table, row):
    for other in table:
        one, two = table[row], table[other]
        if one != two:
            now = [one if ranking.index(one) < ranking.index(two) else two for ranking in row]
            then = [one if ranking.index(one) < ranking.index(two) else two for ranking in other]
            if now == then:
                return False
    return True


def people_so(table, row):
    return all(table[other] == table[row] for other in permutations(row))


def things_so(table, row):
    return all(
        table[tuple(tuple(new[item] for item in ranking) for ranking in row)] == new[table[row]]
        for new in permutations(range(len(row[0])))
    )


def tops_so(table, row):
    tops = [ranking[0] for ranking in row]
    return all(table[other] == table[row] for other in table if [ranking[0] for ranking in other] == tops)


def truthful_so(table, row):
    for person, ranking in enumerate(row):
        liked = ranking[:ranking.index(table[row])]
        if any(table[with_ranking(row, person, told)] in liked for told in permutations(ranking)):
            return False
    return True


def turned_so(table, row):
    return table[tuple(tuple(reversed(ranking)) for ranking in row)] != table[row]


SO_AT = {
    "agreed": agreed_so, "beats": beats_so, "best": best_so, "bottom": bottom_so, "growing": growing_so,
    "pairs": pairs_so, "people": people_so, "things": things_so, "tops": tops_so, "truthful": truthful_so,
    "turned": turned_so,
}


def expected_row(rule, axiom):
    """The least row at which a rule breaks an axiom, worked out by trying what the document names."""
    people, things = size(rule)
    table = dict(zip(rows(people, things), rule))
    if axiom == "noboss":
        bossed = any(all(row[person][0] == table[row] for row in table) for person in range(people))
        return () if bossed else None
    if axiom == "open":
        return None if set(rule) == set(range(things)) else ()
    return next((row for row in sorted(table) if not SO_AT[axiom](table, row)), None)


def all_rules(people, things):
    many = len(rows(people, things))
    return [tuple(number >> at & 1 for at in range(many)) for number in range(2 ** many)]


def rules_near_told():
    """Rules for 2 people and 3 things that differ from a told one at one row, or at two."""
    found = []
    for at, name in enumerate(names()):
        for first in range(at % 2, 36, 2):
            rule = list(told_rule(name, 2, 3))
            rule[first] = (rule[first] + 1 + first % 2) % 3
            found.append(tuple(rule))
            rule[35 - first] = (rule[35 - first] + 1) % 3
            found.append(tuple(rule))
    return found
