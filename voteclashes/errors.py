"""The errors of the package."""


class VoteError(ValueError):
    """The base class of all errors."""


class BadSize(VoteError):
    """Numbers of people and things that are none of the three sizes."""


class BadRow(VoteError):
    """A value that is no row of one of the sizes."""


class BadRule(VoteError):
    """A value that is no rule."""

    def __init__(self, index):
        """index is that of the first item that is no thing, None for no tuple of 4, 36 or 8 items."""
        self.index = index


class BadName(VoteError):
    """A value that is no name of a told rule."""


class BadPerson(VoteError):
    """A value that is no person of the size."""


class BadAxiom(VoteError):
    """A value that is no name of an axiom."""


class BadAxioms(VoteError):
    """A value that is no ascending tuple of different axioms."""


class NotAlike(VoteError):
    """A rule and a row of two different sizes."""


class NotText(VoteError):
    """A value that is no string where a text is wanted."""


class InvalidText(VoteError):
    """A string that is no such text."""


class NothingToUndo(VoteError):
    """There is no line left to take back."""
