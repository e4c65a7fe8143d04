"""Phones, where some are absent now and then (points 1 and 8)."""

import copy
import itertools
import unittest

from callchain.errors import BadAbsent, BadOrders, BadPerson
from callchain.phones import Phones
from callchain.telling import walked
from kinds import HUGE, NO_ABSENT, NO_ORDERS, NO_PERSON, KindsCase
from reckon import SlowPhones
from samples import absent_of, chain, doubling, mixed_absent, mixed_orders, pairs, some_orders, star


def state(phones, people):
    return {
        "gone": phones.gone(),
        "knowing": phones.knowing(),
        "rows": [phones.row(person) for person in range(people)],
        "done": phones.is_done(),
    }


class PhonesCase(KindsCase):
    def stands(self, phones, gone, knowing, rows, done):
        self.assertEqual(
            state(phones, len(rows)), {"gone": gone, "knowing": knowing, "rows": rows, "done": done},
        )

    def check(self, orders, rounds):
        """As other phones tell, round by round."""
        phones, slow = Phones(orders), SlowPhones(orders)
        called = []
        self.assertEqual(state(phones, len(orders)), slow.state())
        for absent in rounds:
            calls = phones.pass_round(absent)
            self.assertEqual(calls, slow.step(absent))
            self.assertEqual(state(phones, len(orders)), slow.state())
            called.extend(call[1] for call in calls)
        self.assertEqual(len(called), len(set(called)))
        self.assertEqual(phones.is_done(), len(called) == len(orders) - 1)


class PhonesTest(PhonesCase):
    def test_one_person(self):
        phones = Phones([[]])
        self.stands(phones, 0, [0], [[]], True)
        self.assertEqual(phones.pass_round([]), [])
        self.stands(phones, 1, [0], [[]], True)

    def test_at_first(self):
        self.stands(Phones([[2, 1], [], [3], []]), 0, [0], [[2, 1], None, None, None], False)

    def test_nobody_absent(self):
        phones = Phones([[1, 2], [3], [], []])
        self.assertEqual(phones.pass_round([]), [(0, 1, True)])
        self.stands(phones, 1, [0, 1], [[2], [3], None, None], False)
        self.assertEqual(phones.pass_round([]), [(0, 2, True), (1, 3, True)])
        self.stands(phones, 2, [0, 1, 2, 3], [[], [], [], []], True)

    def test_one_that_knows_and_is_absent_calls_later(self):
        phones = Phones([[1, 2], [3, 4], [], [], []])
        phones.pass_round([])
        self.assertEqual(phones.pass_round([1]), [(0, 2, True)])
        self.stands(phones, 2, [0, 1, 2], [[], [3, 4], [], None, None], False)
        self.assertEqual(phones.pass_round([1]), [])
        self.stands(phones, 3, [0, 1, 2], [[], [3, 4], [], None, None], False)
        self.assertEqual(phones.pass_round([]), [(1, 3, True)])
        self.assertEqual(phones.pass_round([1, 2, 3, 4]), [])
        self.assertEqual(phones.pass_round([2, 3]), [(1, 4, True)])
        self.stands(phones, 6, [0, 1, 2, 3, 4], [[], [], [], [], []], True)

    def test_one_that_is_called_and_absent_is_passed_over_for_good(self):
        phones = Phones([[1, 2], [3, 4], [], [], []])
        self.assertEqual(phones.pass_round([1]), [(0, 1, False)])
        self.stands(phones, 1, [0], [[3, 4, 2], None, None, None, None], False)
        self.assertEqual(phones.pass_round([]), [(0, 3, True)])
        self.assertEqual(phones.pass_round([2]), [(0, 4, True)])
        self.assertEqual(phones.pass_round([]), [(0, 2, True)])
        self.stands(phones, 4, [0, 2, 3, 4], [[], None, [], [], []], True)
        self.assertEqual(phones.pass_round([]), [])
        self.assertIsNone(phones.row(1))

    def test_absent_only_while_it_is_not_called(self):
        phones = Phones([[1, 2], [3], [4], [], []])
        self.assertEqual(phones.pass_round([2, 3, 4]), [(0, 1, True)])
        self.assertEqual(phones.pass_round([4]), [(0, 2, True), (1, 3, True)])
        self.assertEqual(phones.pass_round([1, 3]), [(2, 4, True)])
        self.assertIs(phones.is_done(), True)

    def test_both_in_one_round(self):
        phones = Phones([[1, 2], [3], [4], [], []])
        phones.pass_round([])
        self.assertEqual(phones.pass_round([1, 2]), [(0, 2, False)])
        self.stands(phones, 2, [0, 1], [[4], [3], None, None, None], False)
        self.assertEqual(phones.pass_round([4]), [(0, 4, False), (1, 3, True)])
        self.stands(phones, 3, [0, 1, 3], [[], [], None, [], None], True)

    def test_who_is_taken_over_waits_with_its_caller(self):
        phones = Phones([[1], [2], [3, 4], [], []])
        phones.pass_round([])
        self.assertEqual(phones.pass_round([2]), [(1, 2, False)])
        self.assertEqual(phones.row(1), [3, 4])
        self.assertEqual(phones.pass_round([1]), [])
        self.assertEqual(phones.row(1), [3, 4])
        self.assertEqual(phones.pass_round([3]), [(1, 3, False)])
        self.assertEqual(phones.pass_round([]), [(1, 4, True)])
        self.stands(phones, 5, [0, 1, 4], [[], [], None, None, []], True)

    def test_rounds_behind_the_end_are_counted(self):
        phones = Phones([[1], []])
        phones.pass_round([])
        for gone in range(1, 201):
            self.stands(phones, gone, [0, 1], [[], []], True)
            self.assertEqual(phones.pass_round([1] if gone % 3 else []), [])
        self.stands(phones, 201, [0, 1], [[], []], True)

    def test_rounds_amid_in_which_nobody_calls_are_counted(self):
        phones = Phones([[1], [2], []])
        phones.pass_round([])
        for gone in range(1, 201):
            self.stands(phones, gone, [0, 1], [[], [2], None], False)
            self.assertEqual(phones.pass_round([1]), [])
        self.assertEqual(phones.pass_round([]), [(1, 2, True)])
        self.stands(phones, 202, [0, 1, 2], [[], [], []], True)

    def test_always_the_same_absent_ones_are_as_walked(self):
        for orders in (chain(40), star(40), doubling(40), pairs(40), mixed_orders(3, 40)):
            for absent in ([], [1], [39], list(range(1, 40, 2)), list(range(1, 40))):
                phones = Phones(orders)
                told = []
                while not phones.is_done():
                    told.append(phones.pass_round(absent))
                self.assertEqual(told, walked(orders, absent))
                self.assertEqual(phones.gone(), len(told))
                self.assertEqual(phones.knowing(), [person for person in range(40) if person not in absent])

    def test_all_absent_ones_in_each_of_few_rounds(self):
        for people, many in ((1, 2), (2, 3), (3, 4), (4, 3)):
            choices = list(absent_of(people))
            for orders in some_orders(people):
                for rounds in itertools.product(choices, repeat=many):
                    self.check(orders, rounds)

    def test_mixed_rounds(self):
        for seed in range(80):
            people = 5 + seed % 36
            rounds = [mixed_absent(seed * 1000 + turn, people, 2 + seed % 4) for turn in range(70)]
            self.check(mixed_orders(seed, people), rounds)

    def test_two_phones_by_one_list(self):
        orders = [[1, 2], [3], [], []]
        one, other = Phones(orders), Phones(orders)
        one.pass_round([1])
        self.stands(one, 1, [0], [[3, 2], None, None, None], False)
        self.stands(other, 0, [0], [[1, 2], None, None, None], False)
        other.pass_round([])
        one.pass_round([])
        self.stands(one, 2, [0, 3], [[2], None, None, []], False)
        self.stands(other, 1, [0, 1], [[2], [3], None, None], False)
        self.assertEqual(orders, [[1, 2], [3], [], []])

    def test_orders_and_absent_ones_changed_behind(self):
        orders, absent = [[1, 2], [3], [], []], [1]
        phones = Phones(orders)
        orders[0].clear()
        orders[1].append(9)
        orders.pop()
        self.assertEqual(phones.pass_round(absent), [(0, 1, False)])
        self.assertEqual(absent, [1])
        absent.append(3)
        self.assertEqual(phones.pass_round([]), [(0, 3, True)])
        self.stands(phones, 2, [0, 3], [[2], None, None, []], False)

    def test_told_lists_changed_behind(self):
        phones = Phones([[1, 2], [3], [], []])
        phones.row(0).clear()
        phones.knowing().append(3)
        self.stands(phones, 0, [0], [[1, 2], None, None, None], False)
        phones.pass_round([]).clear()
        phones.row(0).append(9)
        phones.row(1).clear()
        phones.knowing().clear()
        self.stands(phones, 1, [0, 1], [[2], [3], None, None], False)
        self.assertEqual(phones.pass_round([]), [(0, 2, True), (1, 3, True)])

    def test_told_lists_stay_as_they_are(self):
        phones = Phones([[1, 2], [3], [], []])
        row, knowing = phones.row(0), phones.knowing()
        calls = phones.pass_round([])
        phones.pass_round([])
        self.assertEqual((row, knowing, calls), ([1, 2], [0], [(0, 1, True)]))

    def test_asking_changes_nothing(self):
        phones = Phones(pairs(10))
        phones.pass_round([])
        first = state(phones, 10)
        self.assertEqual(state(phones, 10), first)

    def test_sorts(self):
        phones = Phones([[1, 2], [3], [], []])
        for absent in ([], [2], []):
            self.assertIs(type(phones.gone()), int)
            self.is_plain_list(phones.knowing(), 1)
            self.is_plain_list(phones.row(0), 1)
            self.assertIs(type(phones.is_done()), bool)
            self.is_calls(phones.pass_round(absent))


class RefusedTest(PhonesCase):
    def test_orders(self):
        self.refuses_all(BadOrders, NO_ORDERS, Phones)

    def test_absent_ones_amid(self):
        phones = Phones([[1, 2], [], []])
        phones.pass_round([])
        first = state(phones, 3)
        self.assertEqual(first, {"gone": 1, "knowing": [0, 1], "rows": [[2], [], None], "done": False})
        for absent in NO_ABSENT:
            self.refuses(BadAbsent, phones.pass_round, absent)
            self.assertEqual(state(phones, 3), first)
        self.assertEqual(phones.pass_round([1]), [(0, 2, True)])
        self.stands(phones, 2, [0, 1, 2], [[], [], []], True)

    def test_absent_ones_behind_the_end(self):
        phones = Phones([[]])
        for absent in ([0], [1], [True], None, (), HUGE):
            self.refuses(BadAbsent, phones.pass_round, absent)
        self.stands(phones, 0, [0], [[]], True)

    def test_people_amid(self):
        phones = Phones([[1, 2], [], []])
        phones.pass_round([])
        first = state(phones, 3)
        for person in NO_PERSON + [3, 4, 40, -3]:
            self.refuses(BadPerson, phones.row, person)
            self.assertEqual(state(phones, 3), first)

    def test_just_the_people(self):
        for people in (1, 2, 39, 40):
            phones = Phones(star(people))
            for person in range(people):
                phones.row(person)
            self.refuses(BadPerson, phones.row, people)
            self.refuses(BadPerson, phones.row, -1)
            self.refuses(BadPerson, phones.row, False)

    def test_refused_lists_are_as_they_were(self):
        phones = Phones([[1, 2], [], []])
        absent, orders = [2, 1], [[1, 1], []]
        self.refuses(BadAbsent, phones.pass_round, absent)
        self.refuses(BadOrders, Phones, orders)
        self.assertEqual((absent, orders), ([2, 1], [[1, 1], []]))

    def test_orders_changed_behind_do_not_change_who_is_one(self):
        orders = copy.deepcopy([[1, 2], [], []])
        phones = Phones(orders)
        orders.append([])
        orders[0].append(3)
        self.refuses(BadPerson, phones.row, 3)
        self.refuses(BadAbsent, phones.pass_round, [3])


if __name__ == "__main__":
    unittest.main()
