"""Calls judged to the first that can't be (points 1 and 5)."""

import copy
import unittest

from callchain.answers import Right, Wrong
from callchain.errors import BadCalls, BadOrders
from callchain.telling import judged, walked
from kinds import HUGE, NO_LIST, NO_NUMBER, NO_ORDERS, NO_TRUTH, KindsCase, ring
from reckon import judgement, walks
from samples import absent_of, chain, doubling, mixed_absent, mixed_orders, pairs, some_orders, star

# 0 calls 1, then 2; 1 calls 3, then 4; 2 calls 5.
ORDERS = [[1, 2], [3, 4], [5], [], [], []]
CALLS = [
    [(0, 1, True)],
    [(0, 2, True), (1, 3, True)],
    [(1, 4, True), (2, 5, True)],
]


class JudgedCase(KindsCase):
    def right(self, orders, calls):
        told = judged(orders, calls)
        self.assertIs(type(told), Right)
        self.assertIs(told.shows(orders, calls), True)
        self.assertIs(Wrong(0, 0).shows(orders, calls), False)

    def wrong(self, orders, calls, turn, spot):
        told = judged(orders, calls)
        self.assertIs(type(told), Wrong)
        self.assertEqual((told.turn, told.spot), (turn, spot))
        self.assertEqual((type(told.turn), type(told.spot)), (int, int))
        self.assertIs(told.shows(orders, calls), True)
        self.assertIs(Right().shows(orders, calls), False)

    def check(self, orders, calls, known):
        """As the known walks of the orders tell."""
        where = judgement(calls, known)
        if where is None:
            self.right(orders, calls)
        else:
            self.wrong(orders, calls, *where)


class JudgedTest(JudgedCase):
    def test_right(self):
        self.right(ORDERS, CALLS)

    def test_one_person(self):
        self.right([[]], [])
        self.wrong([[]], [[]], 0, 0)
        self.wrong([[]], [[], []], 0, 0)
        self.wrong([[]], [[(0, 1, True)]], 0, 0)
        self.wrong([[]], [[(0, 0, False)]], 0, 0)

    def test_all_that_come(self):
        for people in range(1, 7):
            for orders in some_orders(people):
                for absent in absent_of(people):
                    self.right(orders, walked(orders, absent))

    def test_all_that_come_of_many(self):
        for seed in range(60):
            people = 7 + seed % 34
            orders = mixed_orders(seed, people)
            self.right(orders, walked(orders, mixed_absent(seed, people, 1 + seed % 5)))
        for orders in (chain(40), star(40), doubling(40), pairs(40)):
            for absent in ([], [1], list(range(1, 40, 2)), list(range(1, 40))):
                self.right(orders, walked(orders, absent))

    def test_a_call_less(self):
        self.wrong(ORDERS, [[], CALLS[1], CALLS[2]], 0, 0)
        self.wrong(ORDERS, [CALLS[0], CALLS[1][:1], CALLS[2]], 1, 1)
        self.wrong(ORDERS, [CALLS[0], CALLS[1][1:], CALLS[2]], 1, 0)
        self.wrong(ORDERS, [CALLS[0], CALLS[1], CALLS[2][:1]], 2, 1)
        self.wrong(ORDERS, [CALLS[0], CALLS[1], CALLS[2][1:]], 2, 0)

    def test_a_call_more(self):
        more = (3, 4, True)
        self.wrong(ORDERS, [CALLS[0] + [more], CALLS[1], CALLS[2]], 0, 1)
        self.wrong(ORDERS, [[more] + CALLS[0], CALLS[1], CALLS[2]], 0, 0)
        self.wrong(ORDERS, [CALLS[0], CALLS[1] + [more], CALLS[2]], 1, 2)
        self.wrong(ORDERS, [CALLS[0], CALLS[1][:1] + [more] + CALLS[1][1:], CALLS[2]], 1, 1)
        self.wrong(ORDERS, [CALLS[0], CALLS[1], CALLS[2] + [more]], 2, 2)

    def test_another_caller(self):
        self.wrong(ORDERS, [[(1, 1, True)], CALLS[1], CALLS[2]], 0, 0)
        self.wrong(ORDERS, [CALLS[0], [(0, 2, True), (2, 3, True)], CALLS[2]], 1, 1)
        self.wrong(ORDERS, [CALLS[0], CALLS[1], [(1, 4, True), (3, 5, True)]], 2, 1)

    def test_another_one_called(self):
        self.wrong(ORDERS, [[(0, 2, True)], CALLS[1], CALLS[2]], 0, 0)
        self.wrong(ORDERS, [CALLS[0], [(0, 1, True), (1, 3, True)], CALLS[2]], 1, 0)
        self.wrong(ORDERS, [CALLS[0], [(0, 2, True), (1, 4, True)], CALLS[2]], 1, 1)

    def test_two_calls_exchanged(self):
        self.wrong(ORDERS, [CALLS[0], CALLS[1][::-1], CALLS[2]], 1, 0)
        self.wrong(ORDERS, [CALLS[0], CALLS[1], CALLS[2][::-1]], 2, 0)

    def test_a_call_twice(self):
        self.wrong(ORDERS, [CALLS[0] * 2, CALLS[1], CALLS[2]], 0, 1)
        self.wrong(ORDERS, [CALLS[0], CALLS[1][:1] + CALLS[1], CALLS[2]], 1, 1)
        self.wrong(ORDERS, [CALLS[0], CALLS[1] + CALLS[1][1:], CALLS[2]], 1, 2)

    def test_a_round_less(self):
        self.wrong(ORDERS, [], 0, 0)
        self.wrong(ORDERS, CALLS[:1], 1, 0)
        self.wrong(ORDERS, CALLS[:2], 2, 0)
        self.wrong(ORDERS, CALLS[1:], 0, 0)
        self.wrong(ORDERS, [CALLS[0], CALLS[2]], 1, 0)

    def test_a_round_more(self):
        self.wrong(ORDERS, CALLS + [[(0, 1, True)]], 3, 0)
        self.wrong(ORDERS, CALLS + [CALLS[2]], 3, 0)
        self.wrong(ORDERS, CALLS + [CALLS[2], CALLS[2]], 3, 0)
        self.wrong(ORDERS, [CALLS[0]] + CALLS, 1, 0)

    def test_an_empty_round(self):
        self.wrong(ORDERS, [[]] + CALLS, 0, 0)
        self.wrong(ORDERS, CALLS[:1] + [[]] + CALLS[1:], 1, 0)
        self.wrong(ORDERS, CALLS[:2] + [[]] + CALLS[2:], 2, 0)
        self.wrong(ORDERS, CALLS + [[]], 3, 0)
        self.wrong(ORDERS, CALLS + [[], []], 3, 0)

    def test_the_first_of_two(self):
        self.wrong(ORDERS, [[(0, 1, True), (9, 9, True)], [], CALLS[2]], 0, 1)
        self.wrong(ORDERS, [CALLS[0], [(0, 2, True), (1, 9, True), (9, 9, True)], []], 1, 1)

    def test_another_third_changes_what_comes_behind(self):
        # 1 absent: 0 takes over 3 and 4, ahead of 2.
        self.wrong(ORDERS, [[(0, 1, False)], CALLS[1], CALLS[2]], 1, 0)
        self.right(ORDERS, [[(0, 1, False)], [(0, 3, True)], [(0, 4, True)], [(0, 2, True)], [(2, 5, True)]])
        self.right(ORDERS, [[(0, 1, False)], [(0, 3, False)], [(0, 4, True)], [(0, 2, False)], [(0, 5, True)]])
        # 2 absent: 0 calls 5.
        self.wrong(ORDERS, [CALLS[0], [(0, 2, False), (1, 3, True)], CALLS[2]], 2, 0)
        self.right(ORDERS, [CALLS[0], [(0, 2, False), (1, 3, True)], [(0, 5, True), (1, 4, True)]])

    def test_another_third_of_one_that_calls_nobody_is_right(self):
        self.right(ORDERS, [CALLS[0], [(0, 2, True), (1, 3, False)], CALLS[2]])
        self.right(ORDERS, [CALLS[0], CALLS[1], [(1, 4, False), (2, 5, True)]])
        self.right(ORDERS, [CALLS[0], CALLS[1], [(1, 4, False), (2, 5, False)]])
        self.right([[1], []], [[(0, 1, False)]])

    def test_numbers_of_any_sign_and_size(self):
        for odd in (-1, -6, 6, 7, 40, 1000, 10 ** 100, HUGE, -HUGE):
            self.wrong(ORDERS, [[(odd, 1, True)], CALLS[1], CALLS[2]], 0, 0)
            self.wrong(ORDERS, [[(0, odd, True)], CALLS[1], CALLS[2]], 0, 0)
            self.wrong(ORDERS, [[(0, odd, False)], CALLS[1], CALLS[2]], 0, 0)
            self.wrong(ORDERS, [CALLS[0], [(0, 2, True), (odd, 3, True)], CALLS[2]], 1, 1)
            self.wrong(ORDERS, [CALLS[0], [(0, 2, True), (1, odd, True)], CALLS[2]], 1, 1)
            self.wrong(ORDERS, CALLS + [[(odd, odd, False)]], 3, 0)

    def test_callers_told_as_absent(self):
        self.wrong(ORDERS, [[(0, 0, False)], CALLS[1], CALLS[2]], 0, 0)
        self.wrong(ORDERS, [CALLS[0], [(0, 2, True), (1, 1, False)], CALLS[2]], 1, 1)
        self.wrong(ORDERS, [CALLS[0], [(0, 2, True), (1, 3, True), (1, 0, False)], CALLS[2]], 1, 2)

    def test_a_round_of_sixty_calls(self):
        self.wrong(ORDERS, [CALLS[0] * 60], 0, 1)
        self.wrong(ORDERS, [CALLS[0], CALLS[1] + [(person, person, True) for person in range(60)], CALLS[2]], 1, 2)
        self.wrong(ORDERS, CALLS + [[(0, 1, True)] * 60], 3, 0)
        self.wrong([[]], [[(0, 1, True)] * 60], 0, 0)

    def test_forty_rounds(self):
        calls = walked(chain(40), [])
        self.assertEqual(len(calls), 39)
        self.wrong(chain(40), calls + [[]], 39, 0)
        self.wrong(chain(40), calls + [[(39, 0, True)]], 39, 0)
        self.wrong(chain(40), calls[:38], 38, 0)
        self.wrong(chain(40), [[] for turn in range(40)], 0, 0)
        self.wrong(chain(40), calls[:38] + [[(38, 39, True), (38, 39, True)]], 38, 1)


class ChangedCallsTest(JudgedCase):
    """Calls that come, with one change, as all walks of the orders tell."""

    def changes(self, calls, people):
        for turn, told in enumerate(calls):
            head, tail = calls[:turn], calls[turn + 1:]
            yield head + tail
            yield head + [[]] + [told] + tail
            yield head + [told, told] + tail
            yield head
            for spot, call in enumerate(told):
                caller, called, there = call
                before, behind = told[:spot], told[spot + 1:]
                yield head + [before + behind] + tail
                yield head + [before + [call, call] + behind] + tail
                yield head + [before + [(caller, called, not there)] + behind] + tail
                for other in range(-1, people + 1):
                    yield head + [before + [(other, called, there)] + behind] + tail
                    yield head + [before + [(caller, other, there)] + behind] + tail
                    yield head + [before + [(other, caller, False)] + [call] + behind] + tail
                if behind:
                    yield head + [before + [behind[0], call] + behind[1:]] + tail
            yield head + [told + [(people - 1, 0, False)]] + tail
        yield calls + [[]]
        yield calls + [[], []]
        yield calls + [[(0, 1, True)]]

    def test_small_orders(self):
        for people in range(1, 5):
            for orders in some_orders(people):
                known = walks(orders)
                for calls in known:
                    for changed in self.changes(calls, people):
                        self.check(orders, changed, known)

    def test_some_orders_of_six(self):
        for orders in (ORDERS, [[5, 1], [], [], [2], [], [4, 3]], doubling(6), pairs(6)):
            known = walks(orders)
            for calls in known[::5]:
                for changed in self.changes(calls, 6):
                    self.check(orders, changed, known)


class RefusedTest(JudgedCase):
    def refused(self, calls):
        self.refuses(BadCalls, judged, ORDERS, calls)

    def test_orders(self):
        self.refuses_all(BadOrders, NO_ORDERS, lambda orders: judged(orders, []))

    def test_of_two_the_orders_first(self):
        for calls in NO_LIST + [ring(), [None], [[None]]]:
            self.refuses(BadOrders, judged, [[1, 1], []], calls)
            self.refuses(BadOrders, judged, None, calls)

    def test_no_list(self):
        for thing in NO_LIST + [ring(), tuple(CALLS)]:
            self.refused(thing)

    def test_forty_one_rounds(self):
        self.refused([[] for turn in range(41)])
        self.refused([CALLS[0]] * 41)
        self.refused(CALLS + [[]] * 38)
        self.refuses(BadCalls, judged, chain(40), walked(chain(40), []) + [[], []])
        self.refused([[]] * 500)

    def test_rounds_that_are_no_lists(self):
        for thing in NO_LIST + [(), tuple(CALLS[0])]:
            self.refused([thing])
            self.refused([thing, CALLS[1]])
            self.refused(CALLS[:1] + [thing] + CALLS[2:])
            self.refused(CALLS + [thing])
            self.refused([[]] * 39 + [thing])

    def test_calls_that_are_no_triples(self):
        for thing in NO_LIST + [
            [], [0, 1, True], (), (0,), (0, 1), (0, 1, True, True), (0, 1, True, 1), ((0, 1, True),), {0: 0, 1: 1, 2: 2},
            "abc", "01T", {0, 1, True}, ring(), range(3), b"abc",
        ]:
            self.refused([[thing]])
            self.refused([CALLS[0] + [thing]])
            self.refused([[thing] + CALLS[0]])
            self.refused(CALLS[:2] + [[CALLS[2][0], thing]])
            self.refused([[]] * 39 + [[thing]])

    def test_a_caller_or_called_one_that_is_no_number(self):
        for thing in NO_NUMBER:
            self.refused([[(thing, 1, True)]])
            self.refused([[(0, thing, True)]])
            self.refused([[(0, thing, False)]])
            self.refused(CALLS[:2] + [[CALLS[2][0], (2, thing, True)]])
            self.refused(CALLS[:2] + [[CALLS[2][0], (thing, 5, True)]])

    def test_true_and_false_in_place_of_numbers_that_are_due(self):
        self.refused([[(False, 1, True)]] + CALLS[1:])
        self.refused([[(0, True, True)]] + CALLS[1:])
        self.refused([CALLS[0], [(0, 2, True), (True, 3, True)], CALLS[2]])

    def test_a_third_that_is_no_truth(self):
        for thing in NO_TRUTH:
            self.refused([[(0, 1, thing)]])
            self.refused([[(0, 1, thing)]] + CALLS[1:])
            self.refused(CALLS[:2] + [[CALLS[2][0], (2, 5, thing)]])

    def test_refused_also_where_an_earlier_call_is_wrong(self):
        for bad in ((0, 1, 1), (0, True, True), None, [0, 1, True]):
            self.refused([[(9, 9, True)], [bad]])
            self.refused([[(9, 9, True), bad]])
            self.refused([[], [], [bad]])
            self.refused(CALLS + [[], [bad]])
        self.refused([[(9, 9, True)], None])
        self.refused([[(9, 9, True)]] * 41)

    def test_refused_ones_are_as_they_were(self):
        calls = [[(0, 1, True)], [[0, 2, True]]]
        orders = copy.deepcopy(ORDERS)
        self.refuses(BadCalls, judged, orders, calls)
        self.assertEqual((orders, calls), (ORDERS, [[(0, 1, True)], [[0, 2, True]]]))


class ByHandTest(JudgedCase):
    def test_right(self):
        self.assertIs(Right().shows(ORDERS, CALLS), True)
        self.assertIs(Right().shows(ORDERS, CALLS[:2]), False)
        self.assertIs(Right().shows(ORDERS, CALLS + [[]]), False)
        self.assertIs(Right().shows([[]], []), True)
        self.assertIs(Right().shows([[]], [[]]), False)
        self.assertIs(Right().shows([[1], []], CALLS), False)

    def test_wrong_where_all_is_right(self):
        for turn in range(-1, 5):
            for spot in range(-1, 5):
                self.assertIs(Wrong(turn, spot).shows(ORDERS, CALLS), False)

    def test_wrong_just_at_its_place(self):
        cases = [
            ([], (0, 0)),
            ([CALLS[0], CALLS[1][:1], CALLS[2]], (1, 1)),
            ([CALLS[0], CALLS[1][1:], CALLS[2]], (1, 0)),
            ([CALLS[0], CALLS[1], CALLS[2] + [(9, 9, True)]], (2, 2)),
            (CALLS[:2], (2, 0)),
            (CALLS + [[]], (3, 0)),
            (CALLS + [[(-1, HUGE, False)]], (3, 0)),
        ]
        for calls, where in cases:
            for turn in list(range(-4, 6)) + [HUGE, -HUGE]:
                for spot in list(range(-4, 6)) + [HUGE, -HUGE]:
                    self.assertIs(Wrong(turn, spot).shows(ORDERS, calls), (turn, spot) == where)

    def test_fields_as_they_stand_then(self):
        told = Wrong(2, 0)
        self.assertEqual((told.turn, told.spot), (2, 0))
        self.assertIs(told.shows(ORDERS, CALLS[:2]), True)
        told.turn = 1
        self.assertIs(told.shows(ORDERS, CALLS[:2]), False)
        self.assertIs(told.shows(ORDERS, CALLS[:1]), True)
        told.spot = 1
        self.assertIs(told.shows(ORDERS, CALLS[:1]), False)

    def test_truths_and_lists_are_no_numbers_in_fields(self):
        calls = [CALLS[0], CALLS[1][:1], CALLS[2]]
        self.assertIs(Wrong(1, 1).shows(ORDERS, calls), True)
        for turn, spot in ((True, 1), (1, True), (True, True), ([1], 1), (1, [1]), ([1, 1], [])):
            self.assertIs(Wrong(turn, spot).shows(ORDERS, calls), False)
        self.assertIs(Wrong(False, False).shows(ORDERS, []), False)

    def test_showing_changes_nothing(self):
        orders, calls = copy.deepcopy((ORDERS, CALLS))
        Right().shows(orders, calls)
        Wrong(1, 0).shows(orders, calls)
        self.assertEqual((orders, calls), (ORDERS, CALLS))


if __name__ == "__main__":
    unittest.main()
