"""A desk, at which rankings are told and rules are asked, line by line."""

from voteclashes.errors import InvalidText, NothingToUndo
from voteclashes.rows import rankings, rows, with_item
from voteclashes.rules import choice, lies, names, told_rule
from voteclashes.texts import check_text, write_rankings, write_row, write_things


class Desk:
    """Keeps a row, at first with ascending rankings."""

    def __init__(self, people, things):
        """A desk for one of the sizes."""
        self._row = rows(people, things)[0]
        self._earlier = []
        self.people = people
        self.things = things

    @property
    def row(self):
        """The row as it is now."""
        return self._row

    def run(self, line):
        """Give a person a ranking and return None, or return the text that the line asks for."""
        check_text(line)
        words = line.split(" ")
        if words == ["row"]:
            return write_row(self._row)
        if len(words) == 1:
            return str(choice(self.rule_of(words[0]), self._row))
        if len(words) == 3 and words[0] == "lies":
            found = lies(self.rule_of(words[1]), self._row, self.person_of(words[2]))
            return write_rankings(found) if found else "none"
        if len(words) == 2:
            self.give(self.person_of(words[0]), self.ranking_of(words[1]))
            return None
        raise InvalidText("no line of a desk has these words")

    def give(self, person, ranking):
        """Give a person a ranking, and keep the row of before."""
        self._earlier.append(self._row)
        self._row = with_item(self._row, person, ranking)

    def undo(self):
        """Take back the last line that gave a ranking."""
        if not self._earlier:
            raise NothingToUndo("no line has given a ranking")
        self._row = self._earlier.pop()

    def rule_of(self, name):
        """The told rule of a name, for the desk's size."""
        if name not in names():
            raise InvalidText("no told rule has this name")
        return told_rule(name, self.people, self.things)

    def person_of(self, text):
        """The person whose number is written so."""
        for person in range(self.people):
            if str(person) == text:
                return person
        raise InvalidText("no person has this number")

    def ranking_of(self, text):
        """The ranking of the desk's things that is written so."""
        for ranking in rankings(self.things):
            if write_things(ranking) == text:
                return ranking
        raise InvalidText("no ranking has this text")
