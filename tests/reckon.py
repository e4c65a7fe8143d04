"""Reckonings that share nothing with the program, against which it is tested."""

import functools
import itertools

from samples import absent_of, rows_by, turned_rows


def taken_over(orders, absent, person):
    """All that a present one calls in the end: behind an absent one at once those of that one."""
    told = []
    for called in orders[person]:
        told.append(called)
        if called in absent:
            told.extend(taken_over(orders, absent, called))
    return told


def rounds_of(orders, absent):
    """The rounds by when each is called: the k-th call of one that came to know at t is at t + k."""
    calls = []

    def spread(person, when):
        for behind, called in enumerate(taken_over(orders, absent, person)):
            calls.append((when + behind, person, called, called not in absent))
            if called not in absent:
                spread(called, when + behind + 1)

    spread(0, 0)
    rounds = [[] for turn in range(max([call[0] for call in calls], default=-1) + 1)]
    for when, caller, called, there in sorted(calls):
        rounds[when].append((caller, called, there))
    return rounds


def last_call(orders, person=0, when=0):
    """The round, counted from 1, in which the last one at or below this one is called; nobody is absent."""
    return max([when] + [last_call(orders, called, when + k) for k, called in enumerate(orders[person], start=1)])


def fewest_by_all_turns(ups):
    """The least of the rounds that all turns of all rows need."""
    return min(last_call(orders) for orders in turned_rows(rows_by(ups)))


def fewest_by_words(ups):
    """The least of the rounds that all turns need, one person after another; for few that call many at once."""
    rows = rows_by(ups)

    @functools.cache
    def least(person):
        below = [least(called) for called in rows[person]]
        return min(
            max([0] + [at + many for at, many in enumerate(turn, start=1)]) for turn in itertools.permutations(below)
        )

    return least(0)


def is_marked(ups, marks):
    """Whether the marks are numbers from 0 on that are shown as point 3 says, whatever that of 0 is."""
    rows = rows_by(ups)
    if len(marks) != len(rows) or min(marks) < 0:
        return False
    for person, row in enumerate(rows):
        found = marks[person] == 0
        for number in range(1, 60):
            if sum(1 for called in row if marks[called] >= marks[person] - number) >= number:
                found = True
        if not found:
            return False
    return True


def tokens(calls):
    """What stands in rounds of calls one behind the other, each with its round and place."""
    told = []
    for turn, row in enumerate(calls):
        told.append(("round", (turn, 0)))
        for spot, call in enumerate(row):
            told.append((call, (turn, spot)))
        told.append(("round's end", (turn, len(row))))
    told.append(("end", (len(calls), 0)))
    return told


def walks(orders):
    """The calls that come with each list of absent ones."""
    return [rounds_of(orders, absent) for absent in absent_of(len(orders))]


def judgement(calls, known):
    """None, or the first round and place with which no known walk goes on, given all that a walk has."""
    left = [[what for what, where in tokens(walk)] for walk in known]
    for at, (what, where) in enumerate(tokens(calls)):
        left = [walk for walk in left if len(walk) > at and walk[at] == what]
        if not left:
            return where
    return None


def most_rounds(orders, many):
    """The most rounds that at most so many absent ones bring."""
    return max(len(rounds_of(orders, absent)) for absent in absent_of(len(orders)) if len(absent) <= many)


def reported(orders, absent):
    """Round by round, report by report: how many rounds have gone when nothing is left for 0."""
    people = len(orders)
    to_call = {0: taken_over(orders, absent, 0)}
    caller_of = {}
    waiting = {person: set() for person in range(people)}
    done = 0
    while to_call[0] or waiting[0]:
        done += 1
        # All act by what stood at the round's beginning.
        knew = sorted(to_call)
        calling = [person for person in knew if to_call[person]]
        free = [person for person in knew if person and not to_call[person] and not waiting[person]]
        reporting = [person for person in free if person in waiting[caller_of[person]]]
        for person in reporting:
            waiting[caller_of[person]].remove(person)
        for person in calling:
            called = to_call[person].pop(0)
            if called not in absent:
                to_call[called] = taken_over(orders, absent, called)
                caller_of[called] = person
                waiting[person].add(called)
    return done


class SlowPhones:
    """Phones by a table of who stands in whose queue, changed in place."""

    def __init__(self, orders):
        self.below = {person: tuple(row) for person, row in enumerate(orders)}
        self.queues = {0: list(self.below[0])}
        self.rounds = 0

    def step(self, absent):
        told = []
        ready = sorted(person for person in self.queues if self.queues[person] and person not in absent)
        for person in ready:
            called = self.queues[person].pop(0)
            if called in absent:
                self.queues[person][:0] = self.below[called]
            else:
                self.queues[called] = list(self.below[called])
            told.append((person, called, called not in absent))
        self.rounds += 1
        return told

    def state(self):
        return {
            "gone": self.rounds,
            "knowing": sorted(self.queues),
            "rows": [self.queues.get(person) for person in sorted(self.below)],
            "done": not any(self.queues.values()),
        }
