"""Phones at which rounds pass, each with absent ones of its own."""

from callchain.news import callers, copied, first_rows, next_round, take_absent, take_orders, take_person


class Phones:
    """News on its way by given orders: rounds gone, and whom each that knows has still to call."""

    def __init__(self, orders):
        self.orders = take_orders(orders)
        self.rows = first_rows(self.orders)
        self.turns = 0

    def pass_round(self, absent):
        """The calls of the next round, in which these are absent; a round without calls counts, too."""
        missing = take_absent(absent, len(self.orders))
        calls, self.rows = next_round(self.orders, self.rows, missing)
        self.turns += 1
        return calls

    def gone(self):
        """How many rounds have gone."""
        return self.turns

    def knowing(self):
        """Those that know, rising."""
        return [person for person, row in enumerate(self.rows) if row is not None]

    def row(self, person):
        """Whom this one has still to call, in turn, or None if it does not know."""
        return copied(self.rows[take_person(person, len(self.orders))])

    def is_done(self):
        """Whether nobody has anybody to call."""
        return not callers(self.rows)
