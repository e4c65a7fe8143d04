"""All calls, round by round, with absent ones passed over (points 1 and 4)."""

import unittest

from callchain.errors import BadAbsent, BadOrders
from callchain.telling import walked
from kinds import HUGE, NO_ABSENT, NO_ORDERS, NO_PERSON, KindsCase
from reckon import rounds_of
from samples import absent_of, chain, doubling, mixed_absent, mixed_orders, pairs, renamed, some_orders, star

TURNED = [0] + list(range(39, 0, -1))


class WalkedTest(KindsCase):
    def check(self, orders, absent):
        told = walked(orders, absent)
        self.assertEqual(told, rounds_of(orders, absent))
        self.assertIs(type(told), list)
        for calls in told:
            self.is_calls(calls)
            self.assertTrue(calls)
        called = sorted(call[1] for calls in told for call in calls)
        self.assertEqual(called, list(range(1, len(orders))))

    def test_one_person(self):
        self.assertEqual(walked([[]], []), [])

    def test_two_people(self):
        self.assertEqual(walked([[1], []], []), [[(0, 1, True)]])
        self.assertEqual(walked([[1], []], [1]), [[(0, 1, False)]])

    def test_absent_ones_calls_stand_ahead(self):
        self.assertEqual(
            walked([[1, 2], [3, 4], [], [5], [], []], [1, 3]),
            [[(0, 1, False)], [(0, 3, False)], [(0, 5, True)], [(0, 4, True)], [(0, 2, True)]],
        )

    def test_by_callers_rising(self):
        self.assertEqual(
            walked([[3, 2, 1], [], [5], [4, 6], [], [], []], [5]),
            [
                [(0, 3, True)],
                [(0, 2, True), (3, 4, True)],
                [(0, 1, True), (2, 5, False), (3, 6, True)],
            ],
        )

    def test_by_doubling(self):
        self.assertEqual([len(calls) for calls in walked(doubling(40), [])], [1, 2, 4, 8, 16, 8])
        for people in range(1, 41):
            self.check(doubling(people), [])

    def test_forty_people(self):
        for orders in (chain(40), star(40), doubling(40), pairs(40)):
            for named in (orders, renamed(orders, TURNED)):
                for absent in ([], [1], [39], [1, 2, 3], list(range(1, 40, 2)), list(range(2, 40)), list(range(1, 40))):
                    self.check(named, absent)

    def test_all_but_0_absent(self):
        self.assertEqual(walked(star(40), list(range(1, 40))), [[(0, person, False)] for person in range(1, 40)])
        self.assertEqual(walked(chain(40), list(range(1, 40))), [[(0, person, False)] for person in range(1, 40)])

    def test_small_orders_with_all_absent_ones(self):
        for people in range(1, 7):
            for orders in some_orders(people):
                for absent in absent_of(people):
                    self.check(orders, absent)

    def test_mixed_orders(self):
        for seed in range(120):
            people = 7 + seed % 34
            self.check(mixed_orders(seed, people), mixed_absent(seed, people, 1 + seed % 5))


class RefusedTest(KindsCase):
    def test_orders(self):
        self.refuses_all(BadOrders, NO_ORDERS, lambda orders: walked(orders, []))

    def test_absent_ones(self):
        self.refuses_all(BadAbsent, NO_ABSENT, lambda absent: walked([[1, 2], [], []], absent))

    def test_one_bad_thing_at_each_place(self):
        for place in range(20):
            for bad in NO_PERSON + [0]:
                orders = star(21)
                orders[0][place] = bad
                self.refuses(BadOrders, walked, orders, [])
                absent = list(range(1, 21))
                absent[place] = bad
                self.refuses(BadAbsent, walked, star(21), absent)

    def test_of_two_the_orders_first(self):
        for absent in NO_ABSENT:
            self.refuses(BadOrders, walked, [[1, 1], []], absent)
            self.refuses(BadOrders, walked, None, absent)

    def test_nobody_beyond_the_people(self):
        self.refuses(BadAbsent, walked, [[]], [1])
        self.refuses(BadAbsent, walked, chain(40), [40])
        self.refuses(BadAbsent, walked, chain(39), [39])
        self.refuses(BadAbsent, walked, chain(40), [1, HUGE])

    def test_forty_one_people(self):
        self.refuses(BadOrders, walked, chain(41), [])
        self.refuses(BadOrders, walked, star(41), [])


if __name__ == "__main__":
    unittest.main()
