"""The thirteen axioms: which a rule keeps, and the least row at which it breaks each other one."""

from voteclashes.errors import BadAxiom
from voteclashes.rows import ahead, beats_all, first_things, rows
from voteclashes.rules import bosses, size

AXIOMS = (
    "agreed", "beats", "best", "bottom", "growing", "noboss", "open",
    "pairs", "people", "things", "tops", "truthful", "turned",
)


def agreed_allows(row, thing):
    """If all people have one thing first, it is this one."""
    return len(set(first_things(row))) > 1 or row[0][0] == thing


def beats_allows(row, thing):
    """If a thing beats all, it is this one."""
    return beats_all(row) in (None, thing)


def best_allows(row, thing):
    """There is no other thing that all people have ahead of this one."""
    return not any([all([ahead(ranking, other, thing) for ranking in row]) for other in row[0]])


def bottom_allows(row, thing):
    """At most half of the people have this thing last."""
    return 2 * [ranking[-1] for ranking in row].count(thing) <= len(row)


# Each function called .._bars tells whether a rule that chooses thing for row
# and chosen for other breaks the axiom at row by other.


def growing_bars(row, thing, other, chosen):
    """Thing is moved ahead in one ranking, and is not chosen again."""
    return chosen != thing and any([moved_by(person, row, other, thing) for person in range(len(row))])


def moved_by(person, row, other, thing):
    """Whether other is row with the thing moved ahead by this person alone."""
    before, after = row[person], other[person]
    if not differs_only_by(person, row, other) or not after.index(thing) < before.index(thing):
        return False
    return [item for item in before if item != thing] == [item for item in after if item != thing]


def differs_only_by(person, row, other):
    """Whether all but this person have the same ranking in both rows."""
    return row[:person] + row[person + 1:] == other[:person] + other[person + 1:]


def pairs_bars(row, thing, other, chosen):
    """Another thing is chosen, and each person orders the two alike in both rows."""
    alike = [ahead(mine, thing, chosen) == ahead(its, thing, chosen) for mine, its in zip(row, other)]
    return chosen != thing and all(alike)


def people_bars(row, thing, other, chosen):
    """The people exchange their rankings, and another thing is chosen."""
    return chosen != thing and sorted(row) == sorted(other)


def things_bars(row, thing, other, chosen):
    """The things are named anew, and not the one with the new name is chosen."""
    new_names = dict(zip(row[0], other[0]))
    renamed = tuple([tuple([new_names[item] for item in ranking]) for ranking in row])
    return renamed == other and chosen != new_names[thing]


def tops_bars(row, thing, other, chosen):
    """Each person has the same first thing, and another thing is chosen."""
    return chosen != thing and first_things(row) == first_things(other)


def truthful_bars(row, thing, other, chosen):
    """One person gets by its ranking in other what it has ahead of thing in row."""
    gains = [person for person in range(len(row)) if ahead(row[person], chosen, thing)]
    return any([differs_only_by(person, row, other) for person in gains])


def turned_bars(row, thing, other, chosen):
    """All rankings are turned backwards, and the same thing is chosen."""
    return chosen == thing and other == tuple([ranking[::-1] for ranking in row])


ALLOWS = {
    "agreed": agreed_allows,
    "beats": beats_allows,
    "best": best_allows,
    "bottom": bottom_allows,
}

BARS = {
    "growing": growing_bars,
    "pairs": pairs_bars,
    "people": people_bars,
    "things": things_bars,
    "tops": tops_bars,
    "truthful": truthful_bars,
    "turned": turned_bars,
}


def axioms():
    """The ascending tuple of the names of the axioms."""
    return AXIOMS


def check_axiom(axiom):
    """Raise BadAxiom unless the value is the name of an axiom."""
    if axiom not in AXIOMS:
        raise BadAxiom("no axiom has this name")


def breaks_at(axiom, row, thing, choices):
    """Whether a rule breaks an axiom at a row; choices are the rule's pairs of a row and the thing for it."""
    if axiom in ALLOWS:
        allows = ALLOWS[axiom]
        return not allows(row, thing)
    bars = BARS[axiom]
    return any([bars(row, thing, other, chosen) for other, chosen in choices])


def breaks_as_whole(rule, axiom, things):
    """Whether a rule breaks "noboss" or "open", which no single row can break."""
    if axiom == "noboss":
        return bosses(rule) != ()
    return not all([thing in rule for thing in range(things)])


def breaking_row(rule, axiom):
    """The least row at which a rule breaks an axiom, () for "noboss" and "open", None if it keeps it."""
    people, things = size(rule)
    check_axiom(axiom)
    if axiom in ("noboss", "open"):
        return () if breaks_as_whole(rule, axiom, things) else None
    choices = list(zip(rows(people, things), rule))
    for row, thing in choices:
        if breaks_at(axiom, row, thing, choices):
            return row
    return None


def keeps(rule, axiom):
    """Whether a rule keeps an axiom."""
    return breaking_row(rule, axiom) is None


def profile(rule):
    """The ascending tuple of the axioms that a rule keeps."""
    return tuple([axiom for axiom in AXIOMS if keeps(rule, axiom)])
