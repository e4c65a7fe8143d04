"""What ups, orders and absent ones are, and how what is none is refused (points 1, 2 and 4)."""

import copy
import unittest

from callchain import news
from callchain.errors import BadAbsent, BadOrders, BadUps
from kinds import NO_LIST, NO_NUMBER, NO_PERSON, KindsCase, ring
from samples import chain, star


class NumbersTest(unittest.TestCase):
    def test_whole_numbers_of_any_size(self):
        for thing in (0, 1, -1, 40, 10 ** 100, -10 ** 100):
            with self.subTest(thing):
                self.assertIs(news.is_number(thing), True)

    def test_others_are_none(self):
        for at, thing in enumerate(NO_NUMBER):
            with self.subTest(at):
                self.assertIs(news.is_number(thing), False)

    def test_people_are_counted_from_0(self):
        self.assertEqual([person for person in range(-3, 9) if news.is_person(person, 4)], [0, 1, 2, 3])

    def test_no_people(self):
        for at, thing in enumerate(NO_PERSON):
            with self.subTest(at):
                self.assertIs(news.is_person(thing, 40), False)


class UpsTest(KindsCase):
    def taken(self, ups):
        before = copy.deepcopy(ups)
        told = news.take_ups(ups)
        self.assertEqual(told, before)
        self.assertEqual(ups, before)
        self.assertIsNot(told, ups)
        self.assertIs(news.is_ups(ups), True)

    def refused(self, ups):
        self.assertIs(news.is_ups(ups), False)
        self.refuses(BadUps, news.take_ups, ups)

    def test_ups(self):
        for ups in ([], [0], [0, 0], [0, 1], [0, 1, 2], [0, 0, 2, 1], [0] * 39, list(range(39))):
            with self.subTest(ups):
                self.taken(ups)

    def test_all_ups_of_four_people(self):
        for first in range(-1, 5):
            for second in range(-1, 5):
                for third in range(-1, 5):
                    ups = [first, second, third]
                    right = first == 0 and second in (0, 1) and third in (0, 1, 2)
                    with self.subTest(ups):
                        self.assertIs(news.is_ups(ups), right)

    def test_forty_ups_are_too_many(self):
        self.refused([0] * 40)
        self.refused(list(range(40)))
        self.refused([0] * 1000)

    def test_who_calls_has_a_lesser_count(self):
        for ups in ([1], [2], [0, 2], [0, 3], [0, 1, 3], list(range(38)) + [39], [1, 0], [0, 0, 39]):
            with self.subTest(ups):
                self.refused(ups)

    def test_ups_of_other_kinds(self):
        for at, thing in enumerate(NO_PERSON):
            with self.subTest(at):
                self.refused([thing])
                self.refused([0, thing])
                self.refused([0, thing, 0])

    def test_true_and_false_are_no_ups(self):
        self.refused([False])
        self.refused([0, True])
        self.refused([0, 0, True])

    def test_no_list_at_all(self):
        for at, thing in enumerate(NO_LIST + [ring()]):
            with self.subTest(at):
                self.refused(thing)

    def test_refused_ones_are_as_they_were(self):
        ups = [0, 1, [2, 3]]
        self.refused(ups)
        self.assertEqual(ups, [0, 1, [2, 3]])


class OrdersTest(KindsCase):
    def taken(self, orders):
        before = copy.deepcopy(orders)
        told = news.take_orders(orders)
        self.assertEqual(told, before)
        self.assertEqual(orders, before)
        self.assertIsNot(told, orders)
        for row, own in zip(told, orders):
            self.assertIsNot(row, own)
        self.assertIs(news.is_orders(orders), True)

    def refused(self, orders):
        self.assertIs(news.is_orders(orders), False)
        self.refuses(BadOrders, news.take_orders, orders)

    def test_one_up_to_forty_people(self):
        for people in range(1, 41):
            with self.subTest(people):
                self.taken(chain(people))
                self.taken(star(people))

    def test_rows_in_any_turn_and_by_greater_counts(self):
        for orders in ([[2, 1], [], []], [[2], [], [1]], [[3, 1], [], [], [2]], [[4], [2], [], [1], [3]]):
            with self.subTest(orders):
                self.taken(orders)

    def test_no_person(self):
        self.refused([])

    def test_forty_one_people(self):
        self.refused(chain(41))
        self.refused(star(41))
        self.refused(star(1000))

    def test_called_twice(self):
        self.refused([[1, 1], []])
        self.refused([[1, 2, 1], [], []])
        self.refused([[1, 1], [], []])
        self.refused(star(39) + [[38]])

    def test_called_by_two(self):
        self.refused([[1, 2], [2], []])
        self.refused([[1, 2], [3], [3], []])
        self.refused([[1], [2], [1]])

    def test_called_by_nobody(self):
        self.refused([[], []])
        self.refused([[1], [], []])
        self.refused([[2], [], []])
        self.refused([[1], [], [3], []])
        self.refused([[] for person in range(40)])

    def test_called_by_itself(self):
        self.refused([[], [1]])
        self.refused([[1], [], [2]])
        self.refused([[1], [1]])

    def test_0_called(self):
        self.refused([[0]])
        self.refused([[0, 1], []])
        self.refused([[1], [0]])
        self.refused([[1], [2], [0]])

    def test_a_ring_that_is_not_come_to(self):
        self.refused([[], [2], [1]])
        self.refused([[1], [], [3], [2]])
        self.refused([[1], [], [3], [4], [2]])
        self.refused([[1, 2], [], [], [4, 5], [3], []])

    def test_beyond_the_last_person_or_below_0(self):
        self.refused([[1]])
        self.refused([[2], []])
        self.refused([[1, 2], []])
        self.refused([[-1], []])
        self.refused([[1, -1], [], []])
        self.refused(chain(40)[:39] + [[40]])

    def test_all_rows_of_three_people_by_the_words(self):
        rows = [[], [0], [1], [2], [1, 2], [2, 1], [1, 1], [0, 1]]
        right = [
            [[1, 2], [], []], [[2, 1], [], []], [[1], [2], []], [[2], [], [1]],
        ]
        for first in rows:
            for second in rows:
                for third in rows:
                    orders = [list(first), list(second), list(third)]
                    with self.subTest(orders):
                        self.assertIs(news.is_orders(orders), orders in right)

    def test_true_and_false_in_place_of_numbers(self):
        self.refused([[True], []])
        self.refused([[False]])
        self.refused([[2, True], [], []])

    def test_in_place_of_a_number(self):
        for at, thing in enumerate(NO_PERSON):
            with self.subTest(at):
                self.refused([[thing], []])
                self.refused([[1, thing], [], []])
                self.refused([[1], [thing], []])

    def test_in_place_of_a_row(self):
        for at, thing in enumerate(NO_LIST):
            with self.subTest(at):
                self.refused([thing])
                self.refused([[1], thing])
                self.refused([thing, []])
                self.refused([[1, 2], [], thing])

    def test_in_place_of_all(self):
        for at, thing in enumerate(NO_LIST + [ring(), ([1], []), ([],), {0: []}, "[]"]):
            with self.subTest(at):
                self.refused(thing)

    def test_rows_that_are_one_list(self):
        row = []
        orders = [[1, 2], row, row]
        told = news.take_orders(orders)
        told[1].append(5)
        self.assertEqual(told[2], [])
        self.assertEqual(orders, [[1, 2], [], []])

    def test_refused_ones_are_as_they_were(self):
        orders = [[1], [2, 2], []]
        self.refused(orders)
        self.assertEqual(orders, [[1], [2, 2], []])


class AbsentTest(KindsCase):
    def taken(self, absent, people):
        before = list(absent)
        told = news.take_absent(absent, people)
        self.assertEqual(told, before)
        self.assertEqual(absent, before)
        self.assertIsNot(told, absent)
        self.assertIs(news.is_absent(absent, people), True)

    def refused(self, absent, people):
        self.assertIs(news.is_absent(absent, people), False)
        self.refuses(BadAbsent, news.take_absent, absent, people)

    def test_none_some_and_all_but_0(self):
        for people in range(1, 41):
            with self.subTest(people):
                self.taken([], people)
                self.taken(list(range(1, people)), people)
                self.taken(list(range(1, people, 2)), people)
                self.taken(list(range(2, people, 3)), people)

    def test_0_among_them(self):
        self.refused([0], 1)
        self.refused([0], 5)
        self.refused([0, 1], 5)
        self.refused([1, 0], 5)

    def test_not_rising(self):
        self.refused([2, 1], 5)
        self.refused([1, 3, 2], 5)
        self.refused([4, 3, 2, 1], 5)

    def test_one_twice(self):
        self.refused([1, 1], 5)
        self.refused([1, 2, 2, 3], 5)

    def test_beyond_the_last_person_or_below_0(self):
        self.refused([1], 1)
        self.refused([5], 5)
        self.refused([1, 2, 5], 5)
        self.refused([-1], 5)
        self.refused([-1, 1], 5)
        self.refused([40], 40)
        self.refused([1, 10 ** 100], 40)

    def test_true_and_false(self):
        self.refused([True], 5)
        self.refused([False], 5)
        self.refused([False, 1], 5)
        self.refused([True, 2], 5)

    def test_in_place_of_a_number(self):
        for at, thing in enumerate(NO_PERSON):
            with self.subTest(at):
                self.refused([thing], 40)
                self.refused([1, thing], 40)
                self.refused([thing, 39], 40)

    def test_in_place_of_all(self):
        for at, thing in enumerate(NO_LIST + [ring(), [[1]], [(1,)]]):
            with self.subTest(at):
                self.refused(thing, 40)

    def test_refused_ones_are_as_they_were(self):
        absent = [2, 1]
        self.refused(absent, 5)
        self.assertEqual(absent, [2, 1])


class OrdersAndAbsentTest(KindsCase):
    def test_copies_of_both(self):
        orders, absent = [[1, 2], [], []], [2]
        told = news.take_orders_and_absent(orders, absent)
        self.assertEqual(told, ([[1, 2], [], []], [2]))
        told[0][0].clear()
        told[1].clear()
        self.assertEqual((orders, absent), ([[1, 2], [], []], [2]))

    def test_orders_are_refused_first(self):
        for absent in ([], [1], [2, 1], [9], None):
            with self.subTest(absent):
                self.refuses(BadOrders, news.take_orders_and_absent, [[1, 1], []], absent)
                self.refuses(BadOrders, news.take_orders_and_absent, None, absent)

    def test_absent_ones_are_judged_by_the_people(self):
        for absent in ([3], [0], [2, 1], [True], (1,), None):
            with self.subTest(absent):
                self.refuses(BadAbsent, news.take_orders_and_absent, [[1, 2], [], []], absent)


if __name__ == "__main__":
    unittest.main()
