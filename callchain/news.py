"""People, ups, orders, absent ones, and rounds of calls by which news is passed on.

The rows of a state tell for each person whom it has still to call, in turn,
or None for one that does not know the news.
"""

from callchain.errors import BadAbsent, BadOrders, BadUps

MOST_PEOPLE = 40


def is_number(thing):
    """Whether it is a whole number, which True and False are not."""
    return isinstance(thing, int) and not isinstance(thing, bool)


def is_person(thing, people):
    """Whether it is one of so many people, who are counted from 0."""
    return is_number(thing) and 0 <= thing < people


def is_ups(ups):
    """Whether it is a list of who calls 1, 2 and so on, each by one with a lesser count."""
    # 0 has no up, so there is one fewer of them than there are people.
    if not isinstance(ups, list) or len(ups) + 1 > MOST_PEOPLE:
        return False
    for person, up in enumerate(ups, start=1):
        if not is_person(up, person):
            return False
    return True


def is_orders(orders):
    """Whether it is a list of rows in which all but 0 are called once, and come to from 0."""
    if not isinstance(orders, list) or not 1 <= len(orders) <= MOST_PEOPLE:
        return False
    return nobody_is_called_twice(orders) and all_are_come_to(orders)


def nobody_is_called_twice(orders):
    """Whether the rows are lists of people, 0 not among them, none of them in two places."""
    called = set()
    for row in orders:
        if not isinstance(row, list):
            return False
        for person in row:
            if not is_person(person, len(orders)) or person == 0 or person in called:
                return False
            called.add(person)
    return True


def all_are_come_to(orders):
    """Whether calls that begin at 0 come to all, in orders in which nobody is called twice."""
    reached = [0]
    at = 0
    # This ends: 0 is never called and the others at most once, so nobody stands in reached twice.
    while at < len(reached):
        reached.extend(orders[reached[at]])
        at += 1
    return len(reached) == len(orders)


def is_absent(absent, people):
    """Whether it is a rising list of some of so many people, 0 not among them."""
    if not isinstance(absent, list):
        return False
    before = 0
    for person in absent:
        if not is_person(person, people) or person <= before:
            return False
        before = person
    return True


def take_ups(ups):
    """A copy of the ups, or BadUps."""
    if not is_ups(ups):
        raise BadUps("ups are a list of at most 39 numbers, each less than the count of the one called")
    return list(ups)


def take_orders(orders):
    """A copy of the orders, or BadOrders."""
    if not is_orders(orders):
        raise BadOrders("orders are 1 to 40 lists in which each but 0 is called once and is come to from 0")
    return [list(row) for row in orders]


def take_absent(absent, people):
    """A copy of the absent ones among so many people, or BadAbsent."""
    if not is_absent(absent, people):
        raise BadAbsent("absent ones are a rising list of people, 0 not among them")
    return list(absent)


def take_orders_and_absent(orders, absent):
    """A pair of copies, or BadOrders, then BadAbsent: the absent ones are judged by the orders' people."""
    own = take_orders(orders)
    return own, take_absent(absent, len(own))


def first_rows(orders):
    """The rows before the first round, when only 0 knows."""
    return [list(orders[0])] + [None for row in orders[1:]]


def copy_rows(rows):
    """The same rows, anew."""
    return [None if row is None else list(row) for row in rows]


def callers(rows):
    """Those that know and have somebody to call still, rising."""
    return [person for person, row in enumerate(rows) if row is not None and len(row) > 0]


def pass_round(orders, rows, absent):
    """A pair: the calls of the next round, as triples by callers, and the rows behind it."""
    calls = []
    behind = copy_rows(rows)
    # The callers are those of the rows before: who is called now does not call before the next round.
    for caller in callers(rows):
        called, *rest = rows[caller]
        there = called not in absent
        if there:
            behind[caller] = rest
            behind[called] = list(orders[called])
        else:
            behind[caller] = orders[called] + rest
        calls.append((caller, called, there))
    return calls, behind


def all_rounds(orders, absent):
    """The calls of each round, till nobody has anybody to call."""
    rounds = []
    rows = first_rows(orders)
    while callers(rows):
        calls, rows = pass_round(orders, rows, absent)
        rounds.append(calls)
    return rounds
