"""Rules as tables, what they choose, who gains by them, and the nine told rules."""

from voteclashes.errors import BadName, BadPerson, BadRule, NotAlike
from voteclashes.rows import (
    ahead, check_row, first_things, is_number_below, place_sums, rankings, rows, with_item,
)

SIZE_BY_LENGTH = {4: (2, 2), 36: (2, 3), 8: (3, 2)}


def size(rule):
    """The pair (people, things) of a rule; BadRule for any other value."""
    if not isinstance(rule, tuple) or len(rule) not in SIZE_BY_LENGTH:
        raise BadRule(None)
    people, things = SIZE_BY_LENGTH[len(rule)]
    for index, item in enumerate(rule):
        if not is_number_below(item, things):
            raise BadRule(index)
    return people, things


def choice(rule, row):
    """The thing that a rule chooses for a row."""
    people, things = size(rule)
    check_row(row)
    if (len(row), len(row[0])) != (people, things):
        raise NotAlike("the row is not of the rule's size")
    return rule[rows(people, things).index(row)]


def bosses(rule):
    """The people whose first thing is chosen in all rows."""
    people, things = size(rule)
    return tuple([person for person in range(people) if rule == firsts_of(person, people, things)])


def firsts_of(person, people, things):
    """A person's first thing in each row of a size."""
    return tuple([row[person][0] for row in rows(people, things)])


def lies(rule, row, person):
    """The rankings by which a person gets a thing that it has ahead of the one chosen in the row."""
    honest = choice(rule, row)
    if not is_number_below(person, len(row)):
        raise BadPerson("a person is a number from 0, below that of the people")
    found = []
    for ranking in rankings(len(row[person])):
        if ahead(row[person], choice(rule, with_item(row, person, ranking)), honest):
            found.append(ranking)
    return tuple(found)


def pick_always(row):
    """Thing 0."""
    return 0


def pick_boss(row):
    """The first thing of person 0."""
    return row[0][0]


def pick_both(row):
    """1 if all people have 1 ahead of 0, otherwise 0."""
    return 1 if all([ahead(ranking, 1, 0) for ranking in row]) else 0


def pick_low(row):
    """The last thing of person 0."""
    return row[0][-1]


def pick_most(row):
    """The thing that most people have first, of several the least."""
    firsts = first_things(row)
    # Of equal ones max returns the first that it meets, so ascending order gives the least.
    return max(sorted(row[0]), key=lambda thing: firsts.count(thing))


def pick_next(row):
    """The thing numbered behind the first one of person 0, 0 behind the last number."""
    return (row[0][0] + 1) % len(row[0])


def pick_pair(row):
    """1 if person 0 has 1 ahead of 0, otherwise 0."""
    return 1 if ahead(row[0], 1, 0) else 0


def pick_ranks(row):
    """The thing with the least sum of places, of several the one that person 0 has ahead of the others."""
    sums = place_sums(row)
    # Of equal ones min returns the first that it meets, here in the order of person 0.
    return min(row[0], key=lambda thing: sums[thing])


def pick_third(row):
    """Of three things with two different ones first the remaining one, otherwise as "most"."""
    firsts = first_things(row)
    never_first = [thing for thing in row[0] if thing not in firsts]
    if len(row[0]) == 3 and len(never_first) == 1:
        return never_first[0]
    return pick_most(row)


TOLD_RULES = {
    "always": pick_always,
    "boss": pick_boss,
    "both": pick_both,
    "low": pick_low,
    "most": pick_most,
    "next": pick_next,
    "pair": pick_pair,
    "ranks": pick_ranks,
    "third": pick_third,
}


def names():
    """The ascending tuple of the names of the told rules."""
    return tuple(sorted(TOLD_RULES))


def told_rule(name, people, things):
    """The told rule of that name, for a size."""
    # A list or dict cannot be looked up in a dict, so the kind is asked for first.
    if not isinstance(name, str) or name not in TOLD_RULES:
        raise BadName("no told rule has this name")
    pick = TOLD_RULES[name]
    return tuple([pick(row) for row in rows(people, things)])
