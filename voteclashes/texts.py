"""Rankings, rows and rules as texts."""

from voteclashes.errors import BadRule, InvalidText, NotText
from voteclashes.rows import SIZES, check_row, rows
from voteclashes.rules import size


def check_text(text):
    """Raise NotText unless the value is a string."""
    if not isinstance(text, str):
        raise NotText("a text is a string")


def write_things(things):
    """The figures of some things."""
    return "".join([str(thing) for thing in things])


def write_rankings(told):
    """The texts of rankings, one space between."""
    return " ".join([write_things(ranking) for ranking in told])


def write_row(row):
    """The text of a row."""
    check_row(row)
    return write_rankings(row)


def read_row(text):
    """The row that has this text."""
    check_text(text)
    # There are few rows, and what is compared whole needs no other check.
    for people, things in SIZES:
        for row in rows(people, things):
            if write_rankings(row) == text:
                return row
    raise InvalidText("no row has this text")


def write_rule(rule):
    """The text of a rule."""
    size(rule)
    return write_things(rule)


def read_rule(text):
    """The rule that has this text."""
    check_text(text)
    # What is no figure is found at -1, which is no thing.
    rule = tuple(["012".find(figure) for figure in text])
    try:
        size(rule)
    except BadRule:
        raise InvalidText("no rule has this text") from None
    return rule
