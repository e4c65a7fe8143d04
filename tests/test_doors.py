"""Nothing handed in is changed or kept, and what is told is new (point 1), at each door."""

import copy
import unittest

from callchain import answers, telling
from callchain.phones import Phones
from kinds import KindsCase
from samples import pairs

UPS = [0, 0, 1, 1, 2, 2]
ORDERS = pairs(7)
ABSENT = [1, 4]
CALLS = telling.walked(ORDERS, ABSENT)


def plain(told):
    """Fields in place of an answer, so that two can be compared."""
    return (type(told), copy.deepcopy(vars(told))) if isinstance(told, answers.Answer) else copy.deepcopy(told)


def phones_round(orders, absent):
    return Phones(orders).pass_round(absent)


def phones_row(orders, person):
    return Phones(orders).row(person)


def phones_knowing(orders):
    return Phones(orders).knowing()


def fewest_shows(ups, orders, marks):
    return answers.Fewest(orders, marks).shows(ups)


def right_shows(orders, calls):
    return answers.Right().shows(orders, calls)


def wrong_shows(orders, calls):
    return answers.Wrong(2, 0).shows(orders, calls)


def worst_shows(orders, absent):
    return answers.Worst(absent, 6).shows(orders, 2)


FEWEST = telling.fewest(UPS)
# Each door, what is handed in there, and the same changed so that the answer is another one.
DOORS = [
    (telling.fewest, [UPS], [[0, 1, 2, 3, 4, 5]]),
    (telling.walked, [ORDERS, ABSENT], [ORDERS, [2]]),
    (telling.walked, [ORDERS, ABSENT], [[row[::-1] for row in ORDERS], ABSENT]),
    (telling.back, [ORDERS, ABSENT], [ORDERS, [1, 2, 3]]),
    (telling.judged, [ORDERS, CALLS], [ORDERS, CALLS[:2]]),
    (telling.judged, [ORDERS, CALLS], [[row[::-1] for row in ORDERS], CALLS]),
    (telling.worst, [ORDERS, 1], [[[1], [2], [3], [4], [5], [6], []], 1]),
    (phones_round, [ORDERS, ABSENT], [ORDERS, [4]]),
    (phones_row, [ORDERS, 0], [[row[::-1] for row in ORDERS], 0]),
    (phones_knowing, [ORDERS], None),
    (fewest_shows, [UPS, FEWEST.orders, FEWEST.marks], [UPS, FEWEST.orders, [4, 2, 2, 0, 0, 0, 9]]),
    (right_shows, [ORDERS, CALLS], [ORDERS, CALLS[:2]]),
    (wrong_shows, [ORDERS, CALLS[:2]], [ORDERS, CALLS]),
    (worst_shows, [ORDERS, [1, 2]], [ORDERS, [2, 3]]),
]


def put_into(told, others):
    """Changes lists in place, lists within them, too, so that they equal the others."""
    for one, other in zip(told, others):
        if isinstance(one, list):
            rows = [row for row in one if isinstance(row, list)]
            parts = copy.deepcopy(other)
            for row, part in zip(rows, parts):
                if isinstance(part, list):
                    row[:] = part
            one[:] = [rows[at] if at < len(rows) and isinstance(part, list) else part for at, part in enumerate(parts)]


def spoil(told):
    """Changes all lists that were told."""
    if isinstance(told, answers.Answer):
        for field in vars(told).values():
            spoil(field)
    elif isinstance(told, list):
        for part in told:
            spoil(part)
        told.append(77)
        told.reverse()


class DoorsTest(KindsCase):
    def test_what_was_handed_in_is_as_it_was(self):
        for door, handed, other in DOORS:
            own = copy.deepcopy(handed)
            door(*own)
            self.assertEqual(own, handed)

    def test_a_change_behind_changes_nothing_told(self):
        for door, handed, other in DOORS:
            own = copy.deepcopy(handed)
            told = door(*own)
            first = plain(told)
            for part in own:
                spoil(part)
            self.assertEqual(plain(told), first)

    def test_what_is_told_can_be_changed(self):
        for door, handed, other in DOORS:
            own = copy.deepcopy(handed)
            told = door(*own)
            first = plain(told)
            spoil(told)
            self.assertEqual(own, handed)
            self.assertEqual(plain(door(*own)), first)

    def test_lists_changed_in_place_are_answered_as_they_are_then(self):
        for door, handed, other in DOORS:
            if other is not None:
                own = copy.deepcopy(handed)
                first = plain(door(*own))
                put_into(own, other)
                self.assertEqual(own, other)
                second = plain(door(*own))
                self.assertEqual(second, plain(door(*copy.deepcopy(other))))
                self.assertNotEqual(second, first)
                put_into(own, handed)
                self.assertEqual(plain(door(*own)), first)

    def test_told_lists_are_none_of_each_others(self):
        for door, handed, other in DOORS:
            one, two = door(*handed), door(*handed)
            first = plain(two)
            spoil(one)
            self.assertEqual(plain(two), first)

    def test_rows_that_are_one_list(self):
        row = []
        told = telling.fewest([0, 0, 0])
        told.orders[1].append(5)
        self.assertEqual(told.orders[2:], [[], []])
        made = answers.Fewest([[1, 2], row, row], [2, 0, 0])
        made.orders[1].append(5)
        self.assertEqual((made.orders[2], row), ([], []))

    def test_phones_tell_anew_in_the_end(self):
        phones = Phones(ORDERS)
        while not phones.is_done():
            phones.pass_round([])
        for person in range(7):
            spoil(phones.row(person))
        spoil(phones.knowing())
        self.assertIs(phones.is_done(), True)
        self.assertEqual([phones.row(person) for person in range(7)], [[] for person in range(7)])


if __name__ == "__main__":
    unittest.main()
