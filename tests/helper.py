"""What several test files use."""

from voteclashes.rows import rows

SIZES = ((2, 2), (2, 3), (3, 2))

# Values of every kind; none of them is a row, a rule, a name, a person, an axiom or a number of things.
WRONG = (
    None, True, False, "", "0", "01 10", "Most", "fair", -1, 10 ** 40, (), ((),), ((), ()), (None,), ("most",),
    [], [0], [[0, 1], [0, 1]], [(0, 1), (0, 1)], {}, {0: 1}, {"most": 1}, ((0, 1), [0, 1]),
)


def figures(text):
    """The tuple of the figures of a text, blanks aside."""
    return tuple(int(figure) for figure in text if figure != " ")


def row_of(text):
    """The row of a text like "012 210"."""
    return tuple(figures(word) for word in text.split())


def told_choice(rule, row):
    """What a rule chooses, looked up by this file's own means."""
    return dict(zip(rows(len(row), len(row[0])), rule))[row]
