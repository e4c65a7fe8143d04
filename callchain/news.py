"""People, ups, orders, absent ones, calls, and the rounds of calls by which news is passed on.

The rows of a state tell for each person whom it has still to call, in turn,
or None for one that does not know the news.
"""

from callchain.errors import BadAbsent, BadCalls, BadMany, BadOrders, BadPerson, BadUps

MOST_PEOPLE = 40
MOST_ROUNDS = 40
MOST_ABSENT = 3


def is_number(thing):
    """Whether it is a whole number, which True and False are not."""
    return isinstance(thing, int) and not isinstance(thing, bool)


def is_person(thing, people):
    """Whether it is one of so many people, who are counted from 0."""
    return is_number(thing) and 0 <= thing < people


def is_ups(ups):
    """Whether it is a list of who calls 1, 2 and so on, each by one with a lesser count."""
    # 0 has no up, so there is one fewer of them than there are people.
    if not isinstance(ups, list) or len(ups) + 1 > MOST_PEOPLE:
        return False
    for person, up in enumerate(ups, start=1):
        if not is_person(up, person):
            return False
    return True


def is_orders(orders):
    """Whether it is a list of rows in which all but 0 are called once, and come to from 0."""
    if not isinstance(orders, list) or not 1 <= len(orders) <= MOST_PEOPLE:
        return False
    return nobody_is_called_twice(orders) and all_are_come_to(orders)


def nobody_is_called_twice(orders):
    """Whether the rows are lists of people, 0 not among them, none of them in two places."""
    called = set()
    for row in orders:
        if not isinstance(row, list):
            return False
        for person in row:
            if not is_person(person, len(orders)) or person == 0 or person in called:
                return False
            called.add(person)
    return True


def all_are_come_to(orders):
    """Whether calls that begin at 0 come to all, in orders in which nobody is called twice."""
    reached = [0]
    at = 0
    # This ends: 0 is never called and the others at most once, so nobody stands in reached twice.
    while at < len(reached):
        reached.extend(orders[reached[at]])
        at += 1
    return len(reached) == len(orders)


def is_absent(absent, people):
    """Whether it is a rising list of some of so many people, 0 not among them."""
    if not isinstance(absent, list):
        return False
    before = 0
    for person in absent:
        if not is_person(person, people) or person <= before:
            return False
        before = person
    return True


def is_call(call):
    """Whether it is a triple of two numbers, whatever they are, and True or False."""
    if not isinstance(call, tuple) or len(call) != 3:
        return False
    caller, called, there = call
    return is_number(caller) and is_number(called) and isinstance(there, bool)


def is_calls(calls):
    """Whether it is a list of at most 40 rounds, each a list of calls."""
    if not isinstance(calls, list) or len(calls) > MOST_ROUNDS:
        return False
    for told in calls:
        if not isinstance(told, list) or not all(is_call(call) for call in told):
            return False
    return True


def copied(thing):
    """A new list with new lists in it; what is no list stays what it is."""
    if not isinstance(thing, list):
        return thing
    return [list(part) if isinstance(part, list) else part for part in thing]


def take_ups(ups):
    """A copy of the ups, or BadUps."""
    if not is_ups(ups):
        raise BadUps("ups are a list of at most 39 numbers, each less than the count of the one called")
    return list(ups)


def take_orders(orders):
    """A copy of the orders, or BadOrders."""
    if not is_orders(orders):
        raise BadOrders("orders are 1 to 40 lists in which each but 0 is called once and is come to from 0")
    return copied(orders)


def take_absent(absent, people):
    """A copy of the absent ones among so many people, or BadAbsent."""
    if not is_absent(absent, people):
        raise BadAbsent("absent ones are a rising list of people, 0 not among them")
    return list(absent)


def take_orders_and_absent(orders, absent):
    """A pair of copies, or BadOrders, then BadAbsent: the absent ones are judged by the orders' people."""
    own = take_orders(orders)
    return own, take_absent(absent, len(own))


def take_calls(calls):
    """A copy of the rounds of calls, or BadCalls."""
    if not is_calls(calls):
        raise BadCalls("calls are at most 40 lists of triples: a number, a number, and True or False")
    return copied(calls)


def take_many(many):
    """The same number, or BadMany."""
    if not is_number(many) or not 0 <= many <= MOST_ABSENT:
        raise BadMany("how many are absent at most is a number from 0 to 3")
    return many


def take_person(person, people):
    """The same one of so many people, or BadPerson."""
    if not is_person(person, people):
        raise BadPerson("a person is a number from 0 on, less than how many people there are")
    return person


def first_rows(orders):
    """The rows before the first round, when only 0 knows."""
    return [list(orders[0])] + [None for row in orders[1:]]


def callers(rows):
    """Those that know and have somebody to call still, rising."""
    return [person for person, row in enumerate(rows) if row is not None and len(row) > 0]


def next_round(orders, rows, absent):
    """A pair: the calls of the next round, as triples by callers, and the rows behind it."""
    calls = []
    behind = copied(rows)
    # The callers are those of the rows before: who is called now does not call before the next round.
    for caller in callers(rows):
        # Where absent ones change from round to round, one that knows can be among them.
        if caller in absent:
            continue
        called, *rest = rows[caller]
        there = called not in absent
        if there:
            behind[caller] = rest
            behind[called] = list(orders[called])
        else:
            behind[caller] = orders[called] + rest
        calls.append((caller, called, there))
    return calls, behind


def all_rounds(orders, absent):
    """The calls of each round, till nobody has anybody to call."""
    rounds = []
    rows = first_rows(orders)
    while callers(rows):
        calls, rows = next_round(orders, rows, absent)
        rounds.append(calls)
    return rounds


def first_wrong(orders, calls):
    """A pair: the first round and the place in it that come with no absent ones; None if all calls come so."""
    rows = first_rows(orders)
    for turn, told in enumerate(calls):
        due = [(caller, rows[caller][0]) for caller in callers(rows)]
        if not due:
            return turn, 0
        spot = first_unlike(due, [(caller, called) for caller, called, there in told])
        if spot is not None:
            return turn, spot
        # Each is called once, so whether one is absent is told once, too, and any such truths go together.
        rows = next_round(orders, rows, [called for caller, called, there in told if not there])[1]
    return (len(calls), 0) if callers(rows) else None


def first_unlike(ones, others):
    """The first place at which two lists are unlike, also where only one of them has ended; None if they are alike."""
    for at, (one, other) in enumerate(zip(ones, others)):
        if one != other:
            return at
    return None if len(ones) == len(others) else min(len(ones), len(others))


def absent_lists(people, many):
    """All lists of at most so many absent ones among the people."""
    told = [[]]
    for person in range(1, people):
        told = told + [absent + [person] for absent in told if len(absent) < many]
    return told


def worst_absent(orders, many):
    """A pair: absent ones, at most so many, that bring the most rounds of calls, and how many rounds these are."""
    worst = []
    most = 0
    for absent in absent_lists(len(orders), many):
        turns = len(all_rounds(orders, absent))
        if turns > most:
            worst = absent
            most = turns
    return worst, most


def rounds_back(orders, absent):
    """How many rounds have gone when 0 knows, by reports told back, that nothing is left."""
    ready = [0 for row in orders]
    rounds = list(enumerate(all_rounds(orders, absent), start=1))
    # From the last round on: when one's call is looked at, all calls and reports of the one called are already in.
    for turn, calls in reversed(rounds):
        for caller, called, there in calls:
            answer = max(turn, ready[called]) + 1 if there else turn
            ready[caller] = max(ready[caller], answer)
    return ready[0]
