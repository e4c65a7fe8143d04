"""The fewest rounds of ups, with orders and marks (points 1 and 3)."""

import copy
import unittest

from callchain.answers import Fewest
from callchain.errors import BadUps
from callchain.telling import fewest
from kinds import HUGE, NO_PERSON, NO_UPS, KindsCase
from reckon import fewest_by_all_turns, fewest_by_words, is_marked, last_call
from samples import all_ups, mixed_ups, rows_by, turned_rows

PAIRS = [(person - 1) // 2 for person in range(1, 40)]
# Each is called by the one that it is without its highest bit: by such, the knowing ones double in each round.
DOUBLED = [person - (1 << (person.bit_length() - 1)) for person in range(1, 40)]
FEW_THAT_CALL_MANY = [0, 0, 0] + [1] * 20 + [2] * 10 + [3] * 6


class FewestTest(KindsCase):
    def check(self, ups, rounds):
        """Told as point 3 says, with just so many rounds."""
        told = fewest(ups)
        self.assertIs(type(told), Fewest)
        self.assertEqual([sorted(row) for row in told.orders], rows_by(ups))
        self.assertEqual(last_call(told.orders), rounds)
        self.assertTrue(is_marked(ups, told.marks))
        self.assertEqual(told.marks[0], rounds)
        self.assertIs(told.shows(ups), True)
        self.is_plain_list(told.orders, 2)
        self.is_plain_list(told.marks, 1)

    def test_one_person(self):
        told = fewest([])
        self.assertEqual((told.orders, told.marks), ([[]], [0]))
        self.check([], 0)

    def test_two_people(self):
        told = fewest([0])
        self.assertEqual((told.orders, told.marks), ([[1], []], [1, 0]))
        self.check([0], 1)

    def test_chains(self):
        for people in range(1, 41):
            with self.subTest(people):
                self.check(list(range(people - 1)), people - 1)

    def test_stars(self):
        for people in range(1, 41):
            with self.subTest(people):
                self.check([0] * (people - 1), people - 1)

    def test_the_longer_chain_is_called_first(self):
        self.assertEqual(fewest([0, 0, 2]).orders, [[2, 1], [], [3], []])
        self.check([0, 0, 2], 2)
        self.check([0, 0, 2, 3, 4], 4)

    def test_marks_of_a_row(self):
        told = fewest([0, 0, 0, 3, 3])
        self.assertEqual(last_call(told.orders), 3)
        self.assertEqual(told.orders[0][0], 3)
        self.check([0, 0, 0, 3, 3], 3)

    def test_by_doubling(self):
        for people, rounds in ((2, 1), (3, 2), (4, 2), (5, 3), (8, 3), (9, 4), (16, 4), (17, 5), (32, 5), (33, 6), (40, 6)):
            with self.subTest(people):
                self.check(DOUBLED[:people - 1], rounds)

    def test_pairs(self):
        for people in range(1, 41):
            with self.subTest(people):
                self.check(PAIRS[:people - 1], fewest_by_words(PAIRS[:people - 1]))

    def test_few_that_call_many(self):
        self.assertEqual(len(FEW_THAT_CALL_MANY), 39)
        self.check(FEW_THAT_CALL_MANY, 21)
        self.check([0, 0] + [1] * 18 + [2] * 18, 20)
        self.check([0, 0] + [1] * 18 + [2] * 19, 20)
        self.check([0, 1] + [2] * 37, 39)
        # A row of seven, each of them with a chain of another length below it.
        ups, last = [0] * 7, 7
        for head, length in zip([3, 1, 7, 5, 2, 6, 4], range(7)):
            for step in range(length):
                ups.append(head if step == 0 else last)
                last += 1
        self.assertEqual(len(ups), 28)
        self.check(ups, fewest_by_words(ups))

    def test_all_ups_up_to_six_people_by_all_orders(self):
        for people in range(1, 7):
            for ups in all_ups(people):
                self.check(ups, fewest_by_all_turns(ups))

    def test_all_ups_of_seven_people(self):
        for ups in all_ups(7):
            self.check(ups, fewest_by_words(ups))

    def test_mixed_ups(self):
        for seed in range(60):
            ups = mixed_ups(seed, 8 + seed % 33)
            told = fewest(ups)
            self.check(ups, told.marks[0])

    def test_what_is_handed_in_and_told_goes_its_own_way(self):
        ups = [0, 0, 2, 1, 2]
        before = list(ups)
        told = fewest(ups)
        self.assertEqual(ups, before)
        first = copy.deepcopy((told.orders, told.marks))
        ups[2] = 1
        ups.append(5)
        self.assertEqual((told.orders, told.marks), first)
        told.orders[0].clear()
        told.orders.clear()
        told.marks[0] = 9
        again = fewest(before)
        self.assertEqual((again.orders, again.marks), first)
        self.check(ups, fewest_by_all_turns(ups))


class RefusedUpsTest(KindsCase):
    def test_whatever_is_none(self):
        self.refuses_all(BadUps, NO_UPS, fewest)

    def test_one_bad_thing_at_each_place(self):
        for place in range(39):
            for bad in NO_PERSON + [place + 1, place + 2, 39]:
                ups = [0] * 39
                ups[place] = bad
                self.refuses(BadUps, fewest, ups)

    def test_the_last_that_may_be_at_each_place(self):
        for place in range(39):
            ups = [0] * 39
            ups[place] = place
            self.assertIs(fewest(ups).shows(ups), True)

    def test_forty_ups(self):
        self.refuses(BadUps, fewest, [0] * 40)
        self.refuses(BadUps, fewest, list(range(40)))
        self.refuses(BadUps, fewest, [0] * 500)

    def test_numbers_of_thousands_of_figures(self):
        for bad in (HUGE, -HUGE, HUGE + 1):
            self.refuses(BadUps, fewest, [bad])
            self.refuses(BadUps, fewest, [0, bad])
            self.refuses(BadUps, fewest, [0] * 38 + [bad])

    def test_refused_ones_are_as_they_were(self):
        ups = [0, 1, [2]]
        self.refuses(BadUps, fewest, ups)
        self.assertEqual(ups, [0, 1, [2]])


class FewestByHandTest(KindsCase):
    # 0 calls 1, 2 and 3; 3 calls 4 and 5; three rounds.
    UPS = [0, 0, 0, 3, 3]
    ORDERS = [[3, 1, 2], [], [], [5, 4], [], []]
    MARKS = [3, 0, 0, 2, 0, 0]

    def shown(self, orders, marks, ups, right):
        told = Fewest(orders, marks)
        self.assertIs(told.shows(ups), right)

    def test_right_ones(self):
        self.shown([[]], [0], [], True)
        self.shown([[1], []], [1, 0], [0], True)
        for row in ([3, 1, 2], [3, 2, 1]):
            for below in ([4, 5], [5, 4]):
                self.shown([row, [], [], below, [], []], self.MARKS, self.UPS, True)

    def test_a_row_turned(self):
        for row in ([1, 3, 2], [2, 3, 1], [1, 2, 3], [2, 1, 3]):
            self.shown([row] + self.ORDERS[1:], self.MARKS, self.UPS, False)
            self.shown([row] + self.ORDERS[1:], [4, 0, 0, 2, 0, 0], self.UPS, False)

    def test_other_rows(self):
        right = self.ORDERS
        for bad in (
            [[3, 1]] + right[1:],
            [[3, 1, 2, 4]] + right[1:],
            [[3, 1, 2, 2]] + right[1:],
            [[3, 1, 1]] + right[1:],
            [[3, 3, 1, 2]] + right[1:],
            [[3, 1, 2, 0]] + right[1:],
            [[0, 3, 1, 2]] + right[1:],
            [[3, 1, 2, -1]] + right[1:],
            [[3, 1, -4]] + right[1:],
            [[3, 1, 2, 6]] + right[1:],
            [[3, 1, HUGE]] + right[1:],
            [[3, 1, -HUGE]] + right[1:],
            [[3, 1, 2] * 500] + right[1:],
            [[]] + right[1:],
            right[:3] + [[5]] + right[4:],
            right[:3] + [[]] + right[4:],
            right[:3] + [[5, 4, 4]] + right[4:],
            right[:4] + [[4], []],
            [[3, 1], [2], [], [5, 4], [], []],
            [[3, 1, 2], [], [], [5], [], [4]],
        ):
            self.shown(bad, self.MARKS, self.UPS, False)

    def test_orders_too_short_too_long_and_empty(self):
        for bad in (self.ORDERS[:5], self.ORDERS + [[]], self.ORDERS[:1], [], [[]], [[[]]], self.ORDERS * 20):
            self.shown(bad, self.MARKS, self.UPS, False)
        for bad in ([], [[], []], [[1]], [[0]], [[-1]]):
            self.shown(bad, [0], [], False)

    def test_orders_of_one_more_that_are_such(self):
        self.shown([[3, 1, 2], [6], [], [5, 4], [], [], []], self.MARKS + [0], self.UPS, False)
        self.shown([[3, 1, 2], [], [], [4], []], self.MARKS[:5], self.UPS, False)

    def test_a_mark_off_at_each_place(self):
        for person in range(6):
            for off in (1, 2, 3, 100, HUGE):
                marks = list(self.MARKS)
                marks[person] += off
                # Only those of 3 and 0 can be shown at all, and theirs are the most that can be.
                self.shown(self.ORDERS, marks, self.UPS, False)

    def test_marks_below_0(self):
        for person in range(6):
            for mark in (-1, -2, -HUGE):
                marks = list(self.MARKS)
                marks[person] = mark
                self.shown(self.ORDERS, marks, self.UPS, False)

    def test_the_mark_of_0_is_how_many_rounds_there_are(self):
        for mark in (0, 1, 2, 4, 5):
            self.shown(self.ORDERS, [mark] + self.MARKS[1:], self.UPS, False)

    def test_lesser_marks_where_they_are_shown(self):
        # Three called suffice for three rounds, whatever the mark of 3 is.
        for mark in (0, 1, 2):
            self.shown(self.ORDERS, [3, 0, 0, mark, 0, 0], self.UPS, True)
        self.shown(self.ORDERS, [3, 0, 0, 3, 0, 0], self.UPS, False)

    def test_lesser_marks_where_they_are_needed(self):
        ups, orders = [0, 0, 2, 3], [[2, 1], [], [3], [4], []]
        self.shown(orders, [3, 0, 2, 1, 0], ups, True)
        self.shown(orders, [3, 0, 1, 1, 0], ups, False)
        self.shown(orders, [3, 0, 2, 0, 0], ups, False)
        self.shown(orders, [3, 1, 2, 1, 0], ups, False)

    def test_all_marks_and_all_turns_of_small_ups(self):
        for ups in ([0, 0], [0, 1], [0, 0, 0], [0, 0, 2], [0, 1, 1], [0, 1, 2]):
            least = fewest_by_all_turns(ups)
            for orders in turned_rows(rows_by(ups)):
                for code in range(6 ** len(orders)):
                    marks = [code // 6 ** person % 6 - 1 for person in range(len(orders))]
                    right = is_marked(ups, marks) and marks[0] == last_call(orders)
                    self.assertFalse(right and last_call(orders) != least)
                    self.shown(orders, marks, ups, right)

    def test_marks_too_short_too_long_and_empty(self):
        for marks in ([], [3], self.MARKS[:5], self.MARKS + [0], self.MARKS * 100, [[3]] + self.MARKS[1:]):
            self.shown(self.ORDERS, marks, self.UPS, False)
        self.shown([[]], [], [], False)
        self.shown([[]], [0, 0], [], False)
        self.shown([[]], [1], [], False)
        self.shown([[]], [-1], [], False)
        self.shown([], [], [], False)

    def test_asked_of_other_ups(self):
        told = Fewest(self.ORDERS, self.MARKS)
        for ups in all_ups(6):
            self.assertIs(told.shows(ups), ups == self.UPS)
        for ups in ([], [0], [0, 0, 0, 3], [0, 0, 0, 3, 3, 0], [0, 0, 0, 3, 3, 5], [0] * 39):
            self.assertIs(told.shows(ups), False)

    def test_orders_by_greater_counts_are_of_no_ups(self):
        told = Fewest([[2], [], [1]], [2, 0, 1])
        for ups in all_ups(3):
            self.assertIs(told.shows(ups), False)

    def test_lists_changed_behind(self):
        orders, marks = copy.deepcopy(self.ORDERS), list(self.MARKS)
        told = Fewest(orders, marks)
        orders[0].reverse()
        orders.pop()
        marks.clear()
        self.assertEqual((told.orders, told.marks), (self.ORDERS, self.MARKS))
        self.assertIs(told.shows(self.UPS), True)

    def test_fields_as_they_stand_then(self):
        told = Fewest(self.ORDERS, self.MARKS)
        told.orders[0].reverse()
        self.assertIs(told.shows(self.UPS), False)
        self.assertEqual(self.ORDERS[0], [3, 1, 2])
        told.orders[0].reverse()
        self.assertIs(told.shows(self.UPS), True)
        told.marks[0] -= 1
        self.assertIs(told.shows(self.UPS), False)
        self.assertEqual(self.MARKS[0], 3)
        told.marks = list(self.MARKS)
        self.assertIs(told.shows(self.UPS), True)
        told.orders = [[]]
        told.marks = [0]
        self.assertIs(told.shows([]), True)

    def test_showing_changes_nothing(self):
        told, ups = Fewest(self.ORDERS, self.MARKS), list(self.UPS)
        told.shows(ups)
        self.assertEqual((told.orders, told.marks, ups), (self.ORDERS, self.MARKS, self.UPS))
        ups[4] = 4
        self.assertIs(told.shows(ups), False)

    def test_truths_are_no_numbers_in_fields(self):
        self.shown([[True], []], [1, 0], [0], False)
        self.shown([[1], []], [True, 0], [0], False)
        self.shown([[1], []], [1, False], [0], False)

    def test_forty_people(self):
        for ups in ([0] * 39, list(range(39)), PAIRS, DOUBLED):
            told = fewest(ups)
            again = Fewest(told.orders, told.marks)
            self.assertIs(again.shows(ups), True)
            again.marks[0] += 1
            self.assertIs(again.shows(ups), False)


if __name__ == "__main__":
    unittest.main()
