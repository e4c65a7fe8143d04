"""Ups and orders that several tests begin with."""

import itertools


def chain(people):
    """Each calls the next one."""
    return [[person] for person in range(1, people)] + [[]]


def star(people):
    """0 calls all others."""
    return [list(range(1, people))] + [[] for person in range(1, people)]


def doubling(people):
    """Each that knows calls another one in each round, as long as there are any."""
    orders = [[] for person in range(people)]
    known = 1
    while known < people:
        for caller in range(min(known, people - known)):
            orders[caller].append(known + caller)
        known *= 2
    return orders


def pairs(people):
    """Each calls two."""
    return [[called for called in (2 * caller + 1, 2 * caller + 2) if called < people] for caller in range(people)]


def renamed(orders, names):
    """The same orders with other names for the people."""
    told = [[] for row in orders]
    for person, row in enumerate(orders):
        told[names[person]] = [names[called] for called in row]
    return told


def all_ups(people):
    """All ups of so many people."""
    return [list(ups) for ups in itertools.product(*[range(person) for person in range(1, people)])]


def rows_by(ups):
    """For each person whom it calls by the ups."""
    return [[called for called, up in enumerate(ups, start=1) if up == person] for person in range(len(ups) + 1)]


def turned_rows(rows):
    """All orders with these rows, each of them in any turn."""
    for told in itertools.product(*[itertools.permutations(row) for row in rows]):
        yield [list(row) for row in told]


def some_orders(people):
    """For all ups the rows rising and falling, and once more with the people named the other way round."""
    names = [0] + list(range(people - 1, 0, -1))
    for ups in all_ups(people):
        rows = rows_by(ups)
        yield rows
        yield renamed([row[::-1] for row in rows], names)


def absent_of(people):
    """All lists of absent ones among so many people."""
    for many in range(people):
        for absent in itertools.combinations(range(1, people), many):
            yield list(absent)


def numbers(seed, many, below):
    """So many numbers below another one, always the same ones."""
    told = []
    for step in range(many):
        seed = (seed * 1103515245 + 12345) % (1 << 31)
        told.append((seed >> 8) % below)
    return told


def mixed_ups(seed, people):
    """Some ups of so many people."""
    return [number % person for person, number in enumerate(numbers(seed, people - 1, 1 << 20), start=1)]


def mixed_orders(seed, people):
    """Some orders of so many people, named in any turn."""
    names = [0] + [name for key, name in sorted(zip(numbers(seed, people - 1, 1 << 20), range(1, people)))]
    return renamed(rows_by(mixed_ups(seed + 1, people)), names)


def mixed_absent(seed, people, share):
    """Some absent ones: about one in so many."""
    return [person for person, number in enumerate(numbers(seed, people, share)) if number == 0 and person > 0]
