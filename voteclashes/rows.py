"""Sizes, rankings and rows."""

from itertools import permutations

from voteclashes.errors import BadRow, BadSize

SIZES = ((2, 2), (2, 3), (3, 2))


def is_integer(value):
    """Whether a value is an integer; True and False are none here."""
    return isinstance(value, int) and not isinstance(value, bool)


def is_number_below(value, limit):
    """Whether a value is the number of one of so many people or things."""
    return is_integer(value) and 0 <= value < limit


def is_ranking(value, things):
    """Whether a value is a tuple of all of so many things."""
    if not isinstance(value, tuple) or not all([is_integer(item) for item in value]):
        return False
    return sorted(value) == list(range(things))


def is_row(value):
    """Whether a value is a row of one of the sizes."""
    if not isinstance(value, tuple) or not value or not isinstance(value[0], tuple):
        return False
    things = len(value[0])
    return (len(value), things) in SIZES and all([is_ranking(item, things) for item in value])


def check_size(people, things):
    """Raise BadSize unless the two numbers are one of the sizes."""
    if not is_integer(people) or not is_integer(things) or (people, things) not in SIZES:
        raise BadSize("there are 2 people and 2 things, 2 and 3, or 3 and 2")


def check_row(row):
    """Raise BadRow unless the value is a row."""
    if not is_row(row):
        raise BadRow("a row is a tuple of a ranking by each person")


def rankings(things):
    """The ascending tuple of all rankings of so many things."""
    if not is_integer(things) or things not in (2, 3):
        raise BadSize("there are 2 or 3 things")
    return tuple(permutations(range(things)))


def rows(people, things):
    """The ascending tuple of all rows of a size."""
    check_size(people, things)
    each = rankings(things)
    found = [()]
    for _ in range(people):
        found = [row + (ranking,) for row in found for ranking in each]
    return tuple(found)


def first_things(row):
    """The first thing of each person."""
    return [ranking[0] for ranking in row]


def with_item(items, index, item):
    """The tuple with another item at an index, as when one person tells another ranking."""
    return items[:index] + (item,) + items[index + 1:]


def ahead(ranking, thing, other):
    """Whether a ranking has a thing ahead of another one."""
    return ranking.index(thing) < ranking.index(other)


def beats(row, thing, other):
    """Whether more than half of the people have a thing ahead of another one."""
    return 2 * len([ranking for ranking in row if ahead(ranking, thing, other)]) > len(row)


def beats_all(row):
    """The thing that beats each other one by itself, None if there is none."""
    check_row(row)
    for thing in row[0]:
        if all([beats(row, thing, other) for other in row[0] if other != thing]):
            return thing
    return None


def place_sums(row):
    """For each thing the sum of its places in all rankings."""
    check_row(row)
    return tuple([sum([ranking.index(thing) for ranking in row]) for thing in range(len(row[0]))])
