"""What is told of ups, orders and calls, each with the means to judge whether it is so."""

from callchain.fewest import is_fewest
from callchain.news import all_rounds, copied, first_wrong, is_absent, is_number, worst_absent


class Answer:
    """Something told that can be judged, by its fields as they stand then."""


class Fewest(Answer):
    """Orders by which all know behind the fewest rounds, and marks that show that no fewer do."""

    def __init__(self, orders, marks):
        self.orders = copied(orders)
        self.marks = copied(marks)

    def shows(self, ups):
        """Whether it is so of these ups."""
        return is_fewest(self.orders, self.marks, ups)


class Right(Answer):
    """The calls are all calls that come with some absent ones."""

    def shows(self, orders, calls):
        """Whether it is so of these orders and calls."""
        return first_wrong(orders, calls) is None


class Wrong(Answer):
    """The first round of calls, and the place in it, at which they come with no absent ones."""

    def __init__(self, turn, spot):
        self.turn = copied(turn)
        self.spot = copied(spot)

    def shows(self, orders, calls):
        """Whether it is so of these orders and calls."""
        if not is_number(self.turn) or not is_number(self.spot):
            return False
        return first_wrong(orders, calls) == (self.turn, self.spot)


class Worst(Answer):
    """Absent ones that bring the most rounds of calls, and how many rounds these are."""

    def __init__(self, absent, turns):
        self.absent = copied(absent)
        self.turns = copied(turns)

    def shows(self, orders, many):
        """Whether it is so of these orders and of at most so many absent ones."""
        if not is_absent(self.absent, len(orders)) or len(self.absent) > many:
            return False
        if not is_number(self.turns) or self.turns != len(all_rounds(orders, self.absent)):
            return False
        return self.turns == worst_absent(orders, many)[1]
