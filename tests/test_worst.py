"""The worst that so many absent ones bring (points 1 and 6)."""

import copy
import unittest

from callchain.answers import Worst
from callchain.errors import BadMany, BadOrders, TooMany
from callchain.telling import worst
from kinds import HUGE, NO_NUMBER, NO_ORDERS, KindsCase
from reckon import most_rounds, rounds_of
from samples import absent_of, chain, doubling, mixed_orders, pairs, some_orders, star

NO_MANY = NO_NUMBER + [-1, -2, -3, 4, 5, 12, 100, 10 ** 100, HUGE, -HUGE]
# By one absent no more rounds come than by none, by two one more.
ONLY_BY_TWO = [[1, 2], [3], [], [4], []]
# By one or two absent no more rounds come than by none, by three one more.
ONLY_BY_THREE = [[1, 2], [3], [], [4], [5], []]


class WorstTest(KindsCase):
    def check(self, orders, many):
        told = worst(orders, many)
        self.assertIs(type(told), Worst)
        self.is_plain_list(told.absent, 1)
        self.assertIs(type(told.turns), int)
        self.assertLessEqual(len(told.absent), many)
        self.assertEqual(told.absent, sorted(set(told.absent)))
        self.assertTrue(all(0 < person < len(orders) for person in told.absent))
        self.assertEqual(told.turns, len(rounds_of(orders, told.absent)))
        self.assertEqual(told.turns, most_rounds(orders, many))
        self.assertIs(told.shows(orders, many), True)

    def test_one_person(self):
        for many in range(4):
            told = worst([[]], many)
            self.assertEqual((told.absent, told.turns), ([], 0))
            self.check([[]], many)

    def test_none_absent(self):
        told = worst(pairs(7), 0)
        self.assertEqual((told.absent, told.turns), ([], 4))

    def test_chains_and_stars_bring_no_more(self):
        for people in range(1, 13):
            for many in range(4):
                for orders in (chain(people), star(people)):
                    self.assertEqual(worst(orders, many).turns, people - 1)
                    self.check(orders, many)

    def test_up_to_twelve_people(self):
        for people in range(1, 13):
            for many in range(4):
                for orders in (doubling(people), pairs(people), [row[::-1] for row in pairs(people)]):
                    self.check(orders, many)

    def test_all_small_orders(self):
        for people in range(1, 6):
            for orders in some_orders(people):
                for many in range(4):
                    self.check(orders, many)

    def test_mixed_orders(self):
        for seed in range(48):
            self.check(mixed_orders(seed, 6 + seed % 7), seed % 4)

    def test_only_by_two(self):
        self.assertEqual([worst(ONLY_BY_TWO, many).turns for many in range(4)], [3, 3, 4, 4])
        self.assertEqual(len(worst(ONLY_BY_TWO, 2).absent), 2)
        for many in range(4):
            self.check(ONLY_BY_TWO, many)

    def test_only_by_three(self):
        self.assertEqual([worst(ONLY_BY_THREE, many).turns for many in range(4)], [4, 4, 4, 5])
        self.assertEqual(len(worst(ONLY_BY_THREE, 3).absent), 3)
        for many in range(4):
            self.check(ONLY_BY_THREE, many)

    def test_more_absent_than_there_are(self):
        self.check([[1], []], 3)
        self.check([[1, 2], [], []], 3)


class RefusedTest(KindsCase):
    def test_orders(self):
        self.refuses_all(BadOrders, NO_ORDERS, lambda orders: worst(orders, 1))

    def test_manies(self):
        self.refuses_all(BadMany, NO_MANY, lambda many: worst(pairs(7), many))

    def test_thirteen_people(self):
        for many in range(4):
            self.refuses(TooMany, worst, chain(13), many)
            self.refuses(TooMany, worst, star(13), many)
            self.refuses(TooMany, worst, star(40), many)

    def test_of_two_the_orders_first(self):
        for many in NO_MANY:
            self.refuses(BadOrders, worst, [[1, 1], []], many)
            self.refuses(BadOrders, worst, chain(41), many)

    def test_of_two_the_many_before_too_many_people(self):
        for many in NO_MANY:
            self.refuses(BadMany, worst, chain(13), many)
            self.refuses(BadMany, worst, star(40), many)

    def test_forty_one_people_are_no_orders(self):
        self.refuses(BadOrders, worst, star(41), 0)


class WorstByHandTest(KindsCase):
    # By none absent 3 rounds, by one 4, by two 5, by three 6.
    ORDERS = [[1, 2, 3], [4], [5], [], [6], [], []]

    def shown(self, absent, turns, orders, many):
        return Worst(absent, turns).shows(orders, many)

    def test_all_lists_of_absent_ones(self):
        for orders in (self.ORDERS, pairs(7), ONLY_BY_TWO, ONLY_BY_THREE, chain(5), [[3, 1], [], [4], [2], []]):
            for many in range(4):
                most = most_rounds(orders, many)
                for absent in absent_of(len(orders)):
                    brings = len(rounds_of(orders, absent))
                    right = len(absent) <= many and brings == most
                    for turns in range(-1, 9):
                        self.assertIs(self.shown(absent, turns, orders, many), right and turns == brings)

    def test_other_absent_ones_that_bring_as_many(self):
        self.assertEqual([absent for absent in absent_of(7) if self.shown(absent, 4, self.ORDERS, 1)], [[1], [2]])
        self.assertEqual([absent for absent in absent_of(7) if self.shown(absent, 5, self.ORDERS, 2)], [[1, 2], [1, 4]])

    def test_no_such_absent_ones(self):
        self.assertIs(self.shown([1, 2], 5, self.ORDERS, 2), True)
        for absent in (
            [2, 1], [1, 1], [1, 1, 2], [1, 2, 2], [0, 1], [0, 1, 2], [0], [-1, 1], [-1, 1, 2], [1, 7], [1, 2, 7], [1, HUGE],
            [-HUGE, 1], [HUGE], [[1], [2]], [[1, 2]], [True, 2], list(range(1, 1000)), [1, 2] * 500, list(range(7)),
        ):
            for turns in range(8):
                for many in (2, 3):
                    self.assertIs(self.shown(absent, turns, self.ORDERS, many), False)

    def test_more_than_so_many(self):
        self.assertIs(self.shown([1], 4, self.ORDERS, 0), False)
        self.assertIs(self.shown([1, 2], 5, self.ORDERS, 1), False)
        self.assertIs(self.shown([1, 2], 5, self.ORDERS, 0), False)
        self.assertIs(self.shown([1, 2, 4], 6, self.ORDERS, 3), True)
        self.assertIs(self.shown([1, 2, 4], 6, self.ORDERS, 2), False)
        # In a star no absent ones bring more rounds, so that only how many they are speaks against them.
        self.assertIs(self.shown([1, 2], 3, star(4), 2), True)
        self.assertIs(self.shown([1, 2], 3, star(4), 1), False)
        self.assertIs(self.shown([1, 2, 3], 3, star(4), 2), False)

    def test_other_turns(self):
        for turns in (0, 1, 3, 4, 6, -5, 12, 1000, HUGE, -HUGE, True, [5], [], [[5]]):
            self.assertIs(self.shown([1, 2], turns, self.ORDERS, 2), False)
        self.assertIs(self.shown([], False, [[]], 0), False)
        self.assertIs(self.shown([], True, [[1], []], 0), False)

    def test_one_person(self):
        for many in range(4):
            self.assertIs(self.shown([], 0, [[]], many), True)
            self.assertIs(self.shown([], 1, [[]], many), False)
            self.assertIs(self.shown([0], 0, [[]], many), False)
            self.assertIs(self.shown([1], 0, [[]], many), False)

    def test_asked_of_other_manies_and_orders(self):
        told = worst(self.ORDERS, 1)
        self.assertIs(told.shows(self.ORDERS, 1), True)
        for many in (0, 2, 3):
            self.assertIs(told.shows(self.ORDERS, many), False)
        for orders in ([[]], chain(6), chain(7), star(7), pairs(8), pairs(12)):
            self.assertIs(told.shows(orders, 1), False)

    def test_lists_changed_behind(self):
        absent = [1, 2]
        told = Worst(absent, 5)
        absent.clear()
        self.assertEqual((told.absent, told.turns), ([1, 2], 5))
        self.assertIs(told.shows(self.ORDERS, 2), True)

    def test_fields_as_they_stand_then(self):
        absent = [1, 2]
        told = Worst(absent, 6)
        self.assertIs(told.shows(self.ORDERS, 2), False)
        told.absent.append(4)
        self.assertEqual(absent, [1, 2])
        self.assertIs(told.shows(self.ORDERS, 3), True)
        told.turns = 5
        self.assertIs(told.shows(self.ORDERS, 3), False)
        told.absent = [1, 4]
        self.assertIs(told.shows(self.ORDERS, 2), True)

    def test_showing_changes_nothing(self):
        orders = copy.deepcopy(self.ORDERS)
        told = Worst([1, 2], 5)
        told.shows(orders, 2)
        self.assertEqual((orders, told.absent, told.turns), (self.ORDERS, [1, 2], 5))

    def test_twelve_people(self):
        for many in range(4):
            told = worst(pairs(12), many)
            self.assertIs(Worst(told.absent, told.turns).shows(pairs(12), many), True)
            self.assertIs(Worst(told.absent, told.turns + 1).shows(pairs(12), many), False)
            self.assertIs(Worst(told.absent, told.turns - 1).shows(pairs(12), many), False)


if __name__ == "__main__":
    unittest.main()
