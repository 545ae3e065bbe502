"""Which axioms go together: what some rule keeps, and the least sets that no rule keeps."""

from voteclashes.axioms import AXIOMS, keeps
from voteclashes.errors import BadAxioms, BadSize
from voteclashes.rows import check_size, rows
from voteclashes.rules import told_rule

# For each size, told rules and the axioms that each breaks. Whatever set some rule
# keeps, one of these keeps too: each least clash that follows from them has a paper.
# They are written out because working the profiles out for each question takes long.
BROKEN_BY = {
    (2, 2): (
        ("boss", ("noboss", "people")),
        ("low", ("agreed", "beats", "best", "bottom", "growing", "people", "truthful")),
        ("most", ("things", "turned")),
    ),
    (2, 3): (
        ("always", ("agreed", "beats", "best", "bottom", "open", "things", "turned")),
        ("boss", ("noboss", "people")),
        ("both", ("agreed", "beats", "best", "open", "things", "tops", "turned")),
        ("low", ("agreed", "beats", "best", "bottom", "growing", "people", "tops", "truthful")),
        ("most", ("pairs", "things", "truthful", "turned")),
        ("next", ("agreed", "beats", "best", "bottom", "growing", "pairs", "people", "things", "truthful")),
        ("pair", ("agreed", "beats", "best", "open", "people", "things", "tops")),
        ("ranks", ("pairs", "people", "tops", "truthful")),
        ("third", ("best", "bottom", "growing", "pairs", "truthful", "turned")),
    ),
    (3, 2): (
        ("most", ()),
    ),
}


def check_wanted(wanted):
    """Raise BadAxioms unless the value is an ascending tuple of different axioms."""
    if not isinstance(wanted, tuple) or wanted != tuple([axiom for axiom in AXIOMS if axiom in wanted]):
        raise BadAxioms("wanted axioms are an ascending tuple of different axioms")


def check_question(people, things, wanted):
    """Raise BadSize or BadAxioms unless these are a size and wanted axioms."""
    check_size(people, things)
    check_wanted(wanted)


def has_none_of(broken, wanted):
    """Whether none of the wanted axioms is among the broken ones."""
    return not any([axiom in broken for axiom in wanted])


def can_hold(people, things, wanted):
    """Whether some rule keeps all wanted axioms."""
    check_question(people, things, wanted)
    return any([has_none_of(broken, wanted) for _, broken in BROKEN_BY[people, things]])


def some_rule(people, things, wanted):
    """A rule that keeps all wanted axioms, None if there is none."""
    check_question(people, things, wanted)
    for name, broken in BROKEN_BY[people, things]:
        if has_none_of(broken, wanted):
            return told_rule(name, people, things)
    return None


def can_add(people, things, wanted):
    """The further axioms with each of which some rule keeps all wanted ones and it."""
    check_question(people, things, wanted)
    kept_along = [broken for _, broken in BROKEN_BY[people, things] if has_none_of(broken, wanted)]
    further = [axiom for axiom in AXIOMS if axiom not in wanted]
    return tuple([axiom for axiom in further if any([axiom not in broken for broken in kept_along])])


def greatest_sets(people, things):
    """The sets of axioms that some rule keeps, and none with an axiom more."""
    check_size(people, things)
    kept = [tuple([axiom for axiom in AXIOMS if axiom not in broken]) for _, broken in BROKEN_BY[people, things]]
    return tuple(sorted(kept))


def least_clashes(people, things):
    """The sets of axioms that no rule keeps, while some rule keeps each part of them."""
    return clashes(people, things, AXIOMS)


def clashes(people, things, wanted):
    """The least clashes that lie in the wanted axioms, the smaller ones first."""
    check_question(people, things, wanted)
    found = [()]
    # A set clashes if each greatest set lacks one of its axioms.
    for _, broken in BROKEN_BY[people, things]:
        found = least_with_one_of([axiom for axiom in wanted if axiom in broken], found)
    return tuple(sorted(sorted(found), key=len))


def least_with_one_of(some, parts):
    """The least tuples that contain one of these parts and one of some axioms."""
    hit = [part for part in parts if not has_none_of(some, part)]
    missed = [part for part in parts if has_none_of(some, part)]
    grown = hit + [tuple(sorted(part + (axiom,))) for part in missed for axiom in some]
    return [part for part in grown if not any([lies_within(other, part) for other in grown])]


def lies_within(part, whole):
    """Whether a whole has all of a part, and more."""
    return len(part) < len(whole) and all([axiom in whole for axiom in part])


def count_rules(people, things, wanted):
    """How many rules keep all wanted axioms; for 2 things only."""
    if things != 2:
        raise BadSize("rules are counted for 2 things only")
    check_question(people, things, wanted)
    found = [()]
    for _ in rows(people, things):
        found = [rule + (thing,) for rule in found for thing in range(things)]
    return len([rule for rule in found if all([keeps(rule, axiom) for axiom in wanted])])
