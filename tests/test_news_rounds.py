"""Rounds of calls, with and without absent ones (points 1, 3 and 4)."""

import copy
import unittest

from callchain import news
from reckon import rounds_of
from samples import absent_of, chain, some_orders, star


class RoundsTest(unittest.TestCase):
    def test_one_person(self):
        self.assertEqual(news.all_rounds([[]], []), [])

    def test_two_people(self):
        self.assertEqual(news.all_rounds([[1], []], []), [[(0, 1, True)]])
        self.assertEqual(news.all_rounds([[1], []], [1]), [[(0, 1, False)]])

    def test_a_chain(self):
        self.assertEqual(
            news.all_rounds(chain(4), []),
            [[(0, 1, True)], [(1, 2, True)], [(2, 3, True)]],
        )

    def test_a_chain_of_forty(self):
        self.assertEqual(news.all_rounds(chain(40), []), [[(up, up + 1, True)] for up in range(39)])

    def test_a_chain_with_absent_ones(self):
        self.assertEqual(
            news.all_rounds(chain(5), [1, 3]),
            [[(0, 1, False)], [(0, 2, True)], [(2, 3, False)], [(2, 4, True)]],
        )

    def test_a_star_in_its_turn(self):
        self.assertEqual(
            news.all_rounds([[3, 1, 2], [], [], []], []),
            [[(0, 3, True)], [(0, 1, True)], [(0, 2, True)]],
        )
        self.assertEqual(
            news.all_rounds([[3, 1, 2], [], [], []], [1]),
            [[(0, 3, True)], [(0, 1, False)], [(0, 2, True)]],
        )

    def test_a_star_of_forty(self):
        self.assertEqual(news.all_rounds(star(40), []), [[(0, person, True)] for person in range(1, 40)])

    def test_who_is_called_calls_in_the_next_round(self):
        self.assertEqual(
            news.all_rounds([[1, 2], [3], [], []], []),
            [[(0, 1, True)], [(0, 2, True), (1, 3, True)]],
        )

    def test_triples_by_callers_rising(self):
        self.assertEqual(
            news.all_rounds([[3, 2, 1], [], [5], [4, 6], [], [], []], []),
            [
                [(0, 3, True)],
                [(0, 2, True), (3, 4, True)],
                [(0, 1, True), (2, 5, True), (3, 6, True)],
            ],
        )

    def test_an_absent_ones_calls_stand_ahead(self):
        self.assertEqual(
            news.all_rounds([[1, 2], [3, 4], [], [], []], [1]),
            [[(0, 1, False)], [(0, 3, True)], [(0, 4, True)], [(0, 2, True)]],
        )

    def test_those_taken_over_call_their_own(self):
        self.assertEqual(
            news.all_rounds([[1, 2], [4, 3], [], [], [5], []], [1])[:3],
            [[(0, 1, False)], [(0, 4, True)], [(0, 3, True), (4, 5, True)]],
        )

    def test_absent_below_absent(self):
        self.assertEqual(
            news.all_rounds([[1, 2], [3, 4], [], [5], [], []], [1, 3]),
            [[(0, 1, False)], [(0, 3, False)], [(0, 5, True)], [(0, 4, True)], [(0, 2, True)]],
        )

    def test_absent_below_one_that_was_called(self):
        self.assertEqual(
            news.all_rounds([[1, 2], [3, 4], [], [5], [], []], [3]),
            [
                [(0, 1, True)],
                [(0, 2, True), (1, 3, False)],
                [(1, 5, True)],
                [(1, 4, True)],
            ],
        )

    def test_all_but_0_absent(self):
        told = news.all_rounds([[4, 1], [5, 2], [], [], [3], []], [1, 2, 3, 4, 5])
        self.assertEqual(told, [[(0, person, False)] for person in (4, 3, 1, 5, 2)])

    def test_all_but_0_absent_among_forty(self):
        for orders in (chain(40), star(40)):
            told = news.all_rounds(orders, list(range(1, 40)))
            self.assertEqual(told, [[(0, person, False)] for person in range(1, 40)])

    def test_kinds_of_what_is_told(self):
        told = news.all_rounds([[1, 2], [3], [], []], [2])
        self.assertIs(type(told), list)
        for calls in told:
            self.assertIs(type(calls), list)
            for call in calls:
                self.assertIs(type(call), tuple)
                self.assertEqual([type(part) for part in call], [int, int, bool])

    def test_all_small_orders_with_all_absent_ones(self):
        for people in range(1, 7):
            for orders in some_orders(people):
                for absent in absent_of(people):
                    told = news.all_rounds(orders, absent)
                    self.assertEqual(told, rounds_of(orders, absent), (orders, absent))
                    called = sorted(call[1] for calls in told for call in calls)
                    self.assertEqual(called, list(range(1, people)))


class NothingChangedTest(unittest.TestCase):
    def test_what_was_handed_in_is_as_it_was(self):
        orders = [[1, 2], [3, 4], [], [5], [], []]
        absent = [1, 3]
        before = copy.deepcopy((orders, absent))
        news.all_rounds(orders, absent)
        self.assertEqual((orders, absent), before)

    def test_what_is_told_is_new(self):
        orders = [[1, 2], [3], [], []]
        absent = [1]
        told = news.all_rounds(orders, absent)
        kept = copy.deepcopy(told)
        for calls in told:
            calls.clear()
        told.clear()
        self.assertEqual((orders, absent), ([[1, 2], [3], [], []], [1]))
        self.assertEqual(news.all_rounds(orders, absent), kept)

    def test_a_change_afterwards_changes_nothing_told(self):
        orders = [[1, 2], [3], [], []]
        rows = news.first_rows(orders)
        calls, behind = news.next_round(orders, rows, [])
        orders[0].clear()
        orders[1].clear()
        rows[0].clear()
        self.assertEqual((calls, behind), ([(0, 1, True)], [[2], [3], None, None]))


class OneRoundTest(unittest.TestCase):
    def test_only_0_knows_at_first(self):
        self.assertEqual(news.first_rows([[]]), [[]])
        self.assertEqual(news.first_rows([[2], [], [1]]), [[2], None, None])

    def test_the_first_rows_are_new(self):
        orders = [[2], [], [1]]
        news.first_rows(orders)[0].clear()
        self.assertEqual(orders, [[2], [], [1]])

    def test_callers_know_and_have_somebody_to_call(self):
        self.assertEqual(news.callers([[4], None, [], [5, 6], None, None, None]), [0, 3])
        self.assertEqual(news.callers([[]]), [])

    def test_a_called_one_knows_behind_the_round(self):
        orders = [[1, 2], [3], [], []]
        self.assertEqual(
            news.next_round(orders, [[1, 2], None, None, None], []),
            ([(0, 1, True)], [[2], [3], None, None]),
        )

    def test_an_absent_one_is_passed_over_and_does_not_know(self):
        orders = [[1, 2], [3, 4], [], [], []]
        self.assertEqual(
            news.next_round(orders, [[1, 2], None, None, None, None], [1]),
            ([(0, 1, False)], [[3, 4, 2], None, None, None, None]),
        )

    def test_several_call_at_once(self):
        orders = [[1, 2], [3], [4], [], []]
        self.assertEqual(
            news.next_round(orders, [[2], [3], None, None, None], [2]),
            ([(0, 2, False), (1, 3, True)], [[4], [], None, [], None]),
        )

    def test_an_absent_one_that_knows_does_not_call(self):
        orders = [[1, 2], [3], [4], [], []]
        self.assertEqual(
            news.next_round(orders, [[2], [3], None, None, None], [1, 2]),
            ([(0, 2, False)], [[4], [3], None, None, None]),
        )
        self.assertEqual(news.next_round(orders, [[], [3], None, None, None], [1]), ([], [[], [3], None, None, None]))

    def test_rows_before_and_behind_share_no_list(self):
        orders = [[1, 2], [3], [4], [], []]
        rows = [[2], [3], None, None, None]
        before = copy.deepcopy(rows)
        calls, behind = news.next_round(orders, rows, [])
        for row in behind:
            if row is not None:
                row.append(9)
        self.assertEqual(rows, before)
        self.assertEqual(orders, [[1, 2], [3], [4], [], []])

    def test_rows_of_those_that_do_not_call_are_new_too(self):
        rows = [[], [2], None]
        calls, behind = news.next_round([[1], [2], []], rows, [2])
        behind[0].append(9)
        behind[1].append(9)
        self.assertEqual(rows, [[], [2], None])


if __name__ == "__main__":
    unittest.main()
