"""How many rounds have gone when all is told back (points 1 and 7)."""

import unittest

from callchain.errors import BadAbsent, BadOrders
from callchain.telling import back
from kinds import NO_ABSENT, NO_ORDERS, KindsCase
from reckon import reported
from samples import absent_of, chain, doubling, mixed_absent, mixed_orders, pairs, renamed, some_orders, star


class BackTest(KindsCase):
    def check(self, orders, absent):
        told = back(orders, absent)
        self.assertIs(type(told), int)
        self.assertEqual(told, reported(orders, absent))

    def test_one_person(self):
        self.assertEqual(back([[]], []), 0)
        self.assertIs(type(back([[]], [])), int)

    def test_two_people(self):
        self.assertEqual(back([[1], []], []), 2)
        self.assertEqual(back([[1], []], [1]), 1)

    def test_chains(self):
        for people in range(2, 41):
            self.assertEqual(back(chain(people), []), 2 * (people - 1))
            self.assertEqual(back(chain(people), list(range(1, people))), people - 1)

    def test_stars(self):
        for people in range(2, 41):
            self.assertEqual(back(star(people), []), people)
            self.assertEqual(back(star(people), list(range(1, people))), people - 1)
            self.assertEqual(back(star(people), [people - 1]), max(people - 1, 1))
            self.assertEqual(back(star(people), list(range(1, people - 1))), people)

    def test_one_reports_behind_its_last_call(self):
        # 1 is called in round 1, calls 2 in 2 and 3 in 3, both absent, and reports in 4.
        self.assertEqual(back([[1], [2, 3], [], []], [2, 3]), 4)
        # 3 is there and reports in 4, so that 1 reports in 5.
        self.assertEqual(back([[1], [2, 3], [], []], [2]), 5)
        # 2 is there and reports in 3, in which 1 calls 3.
        self.assertEqual(back([[1], [2, 3], [], []], [3]), 4)

    def test_0_waits_for_reports_or_for_its_own_last_call(self):
        self.assertEqual(back([[1, 2, 3], [], [], []], [3]), 3)
        self.assertEqual(back([[1, 2, 3], [], [], []], [2, 3]), 3)
        self.assertEqual(back([[1, 2], [3], [], [4], []], [2]), 6)

    def test_reports_go_to_who_called(self):
        # 0 takes over 2 from the absent 1; 2 is called in round 2 and reports to 0 in 3.
        self.assertEqual(back([[1], [2], []], [1]), 3)
        self.assertEqual(back([[1], [2], []], [2]), 3)
        self.assertEqual(back([[1], [2], []], [1, 2]), 2)

    def test_several_report_at_once(self):
        # 1 is called in 1, calls 3 in 2, is told back in 3, reports in 4; 2, called in 2, reports in 3.
        self.assertEqual(back([[1, 2], [3], [], []], []), 4)
        # 1 calls 3 in 2 and 2 calls 4 in 3.
        self.assertEqual(back([[1, 2], [3], [4], [], []], []), 5)

    def test_small_orders_with_all_absent_ones(self):
        for people in range(1, 7):
            for orders in some_orders(people):
                for absent in absent_of(people):
                    self.check(orders, absent)

    def test_forty_people(self):
        names = [0] + list(range(39, 0, -1))
        for orders in (chain(40), star(40), doubling(40), pairs(40)):
            for named in (orders, renamed(orders, names)):
                for absent in ([], [1], [39], list(range(1, 40, 2)), list(range(2, 40)), list(range(1, 40))):
                    self.check(named, absent)

    def test_mixed_orders(self):
        for seed in range(120):
            people = 7 + seed % 34
            self.check(mixed_orders(seed, people), mixed_absent(seed, people, 1 + seed % 5))


class RefusedTest(KindsCase):
    def test_orders(self):
        self.refuses_all(BadOrders, NO_ORDERS, lambda orders: back(orders, []))

    def test_absent_ones(self):
        self.refuses_all(BadAbsent, NO_ABSENT, lambda absent: back([[1, 2], [], []], absent))
        self.refuses(BadAbsent, back, [[]], [1])
        self.refuses(BadAbsent, back, chain(40), [40])

    def test_of_two_the_orders_first(self):
        for absent in NO_ABSENT:
            self.refuses(BadOrders, back, [[1, 1], []], absent)
            self.refuses(BadOrders, back, None, absent)


if __name__ == "__main__":
    unittest.main()
