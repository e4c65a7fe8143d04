"""What is told of ups, of orders, of absent ones and of calls."""

from callchain.answers import Fewest, Right, Worst, Wrong
from callchain.errors import TooMany
from callchain.fewest import best_orders
from callchain.news import all_rounds, first_wrong, rounds_back, take_calls, take_many, take_orders
from callchain.news import take_orders_and_absent, take_ups, worst_absent

MOST_FOR_WORST = 12


def fewest(ups):
    """A Fewest: orders of the ups by which all know behind the fewest rounds, and marks that show it."""
    orders, marks = best_orders(take_ups(ups))
    return Fewest(orders, marks)


def walked(orders, absent):
    """All calls, round by round, with the absent ones passed over."""
    own, missing = take_orders_and_absent(orders, absent)
    return all_rounds(own, missing)


def back(orders, absent):
    """How many rounds have gone when 0 knows, by what is reported, that nothing is left."""
    own, missing = take_orders_and_absent(orders, absent)
    return rounds_back(own, missing)


def judged(orders, calls):
    """A Right if all the calls come with some absent ones, or a Wrong of the first place that does not."""
    own = take_orders(orders)
    wrong = first_wrong(own, take_calls(calls))
    if wrong is None:
        return Right()
    turn, spot = wrong
    return Wrong(turn, spot)


def worst(orders, many):
    """A Worst: absent ones, at most so many, that bring the most rounds of calls."""
    own = take_orders(orders)
    most = take_many(many)
    if len(own) > MOST_FOR_WORST:
        raise TooMany("the worst is told of at most 12 people")
    absent, turns = worst_absent(own, most)
    return Worst(absent, turns)
