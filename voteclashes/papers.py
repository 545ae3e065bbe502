"""Papers: what shows that no rule at all keeps all of some axioms, and can be checked."""

from voteclashes.axioms import ALLOWS, BARS
from voteclashes.maps import can_hold, check_question
from voteclashes.rows import is_row, rows, with_item


class Board:
    """What wanted axioms say of the rows of a size, each row given by its number in their order.

    What is left is a tuple that has for each row the tuple of the things left for it.
    """

    def __init__(self, people, things, wanted):
        """What goes against what is found once, since each closing asks for it again and again."""
        self.people = people
        self.things = things
        self.wanted = wanted
        self.all_rows = rows(people, things)
        self.against = {}
        for number in range(len(self.all_rows)):
            for thing in range(things):
                self.against[number, thing] = self.find_against(number, thing)

    def find_against(self, number, thing):
        """Pairs of another row and all things for it that go against this thing for this row."""
        found = []
        for other in range(len(self.all_rows)):
            foes = [chosen for chosen in range(self.things) if self.go_against(number, thing, other, chosen)]
            if other != number and foes:
                found.append((other, tuple(foes)))
        return found

    def go_against(self, number, thing, other, chosen):
        """Whether a rule that chooses both breaks a wanted axiom at one of the two rows by the other one."""
        here, there = self.all_rows[number], self.all_rows[other]
        for axiom in self.wanted:
            if axiom in BARS:
                bars = BARS[axiom]
                if bars(here, thing, there, chosen) or bars(there, chosen, here, thing):
                    return True
        return False

    def left_at_first(self):
        """What is left before anything is struck."""
        return tuple([self.allowed_for(row) for row in self.all_rows])

    def allowed_for(self, row):
        """The things that the wanted axioms allow for a row by itself."""
        return tuple([thing for thing in range(self.things) if self.is_allowed(row, thing)])

    def is_allowed(self, row, thing):
        """Whether each wanted axiom about one row by itself allows the thing there."""
        for axiom in self.wanted:
            if axiom in ALLOWS:
                allows = ALLOWS[axiom]
                if not allows(row, thing):
                    return False
        return True

    def closed(self, left):
        """What is left when all has been struck that can be; the order of striking changes nothing in it."""
        before = None
        while left != before:
            before = left
            left = tuple([self.not_struck(number, before) for number in range(len(before))])
        return left

    def not_struck(self, number, left):
        """The things left for a row that no other row rules out."""
        return tuple([thing for thing in left[number] if not self.is_struck(self.against[number, thing], left)])

    def is_struck(self, against, left):
        """Whether some other row has only things left that are among those against this one."""
        return any([all([thing in foes for thing in left[other]]) for other, foes in against])

    def is_empty(self, left):
        """Whether what is left, closed before, leaves no rule."""
        if () in left:
            return True
        if "open" in self.wanted and self.misses_a_thing(left):
            return True
        return "noboss" in self.wanted and self.has_a_boss(left)

    def misses_a_thing(self, left):
        """Whether some thing is left for no row."""
        return any([all([thing not in things for things in left]) for thing in range(self.things)])

    def has_a_boss(self, left):
        """Whether for some person each row has just the person's first thing left."""
        return any([left == self.left_by_boss(person) for person in range(self.people)])

    def left_by_boss(self, person):
        """For each row just the person's first thing."""
        return tuple([(row[person][0],) for row in self.all_rows])


def paper(people, things, wanted):
    """A paper that shows that no rule keeps all wanted axioms, None if some rule does."""
    if can_hold(people, things, wanted):
        return None
    board = Board(people, things, wanted)
    return paper_for(board, board.left_at_first())


def paper_for(board, left):
    """A paper for what is left; there is one, since the wanted axioms clash."""
    now = board.closed(left)
    if board.is_empty(now):
        return ()
    number = [len(things) > 1 for things in now].index(True)
    parts = [paper_for(board, with_item(now, number, (thing,))) for thing in now[number]]
    return (board.all_rows[number], tuple(parts))


def shows_clash(people, things, wanted, value):
    """Whether a value is a paper that shows that no rule keeps all wanted axioms."""
    check_question(people, things, wanted)
    board = Board(people, things, wanted)
    return is_paper_for(board, board.left_at_first(), value)


def is_paper_for(board, left, value):
    """Whether a value is a paper for what is left."""
    now = board.closed(left)
    if board.is_empty(now):
        return value == ()
    if not isinstance(value, tuple) or len(value) != 2:
        return False
    row, parts = value
    # True equals 1, so a row must be known for one before it is looked up.
    if not is_row(row) or row not in board.all_rows:
        return False
    number = board.all_rows.index(row)
    if len(now[number]) < 2 or not isinstance(parts, tuple) or len(parts) != len(now[number]):
        return False
    for thing, part in zip(now[number], parts):
        if not is_paper_for(board, with_item(now, number, (thing,)), part):
            return False
    return True
