"""The classes of the interface, their fields and their methods."""

import inspect
import unittest

from callchain import phones, telling
from callchain.answers import Answer, Fewest, Right, Worst, Wrong

FIELDS = [
    (Fewest([[1], []], [1, 0]), {"orders": [[1], []], "marks": [1, 0]}),
    (Right(), {}),
    (Wrong(2, 1), {"turn": 2, "spot": 1}),
    (Worst([1, 2], 5), {"absent": [1, 2], "turns": 5}),
]


def arguments(call):
    return list(inspect.signature(call).parameters)


class ClassesTest(unittest.TestCase):
    def test_straight_under_answer(self):
        for made, fields in FIELDS:
            self.assertEqual(type(made).__bases__, (Answer,))

    def test_fields(self):
        for made, fields in FIELDS:
            self.assertEqual(vars(made), fields)

    def test_methods_stand_in_their_own_classes(self):
        for made, fields in FIELDS:
            self.assertIn("shows", vars(type(made)))
        for name in ("pass_round", "gone", "knowing", "row", "is_done"):
            self.assertIn(name, vars(phones.Phones))

    def test_arguments(self):
        self.assertEqual(arguments(Fewest), ["orders", "marks"])
        self.assertEqual(arguments(Right), [])
        self.assertEqual(arguments(Wrong), ["turn", "spot"])
        self.assertEqual(arguments(Worst), ["absent", "turns"])
        self.assertEqual(arguments(Fewest.shows), ["self", "ups"])
        self.assertEqual(arguments(Right.shows), ["self", "orders", "calls"])
        self.assertEqual(arguments(Wrong.shows), ["self", "orders", "calls"])
        self.assertEqual(arguments(Worst.shows), ["self", "orders", "many"])
        self.assertEqual(arguments(telling.fewest), ["ups"])
        self.assertEqual(arguments(telling.walked), ["orders", "absent"])
        self.assertEqual(arguments(telling.back), ["orders", "absent"])
        self.assertEqual(arguments(telling.judged), ["orders", "calls"])
        self.assertEqual(arguments(telling.worst), ["orders", "many"])
        self.assertEqual(arguments(phones.Phones), ["orders"])
        self.assertEqual(arguments(phones.Phones.pass_round), ["self", "absent"])
        self.assertEqual(arguments(phones.Phones.row), ["self", "person"])
        for call in (phones.Phones.gone, phones.Phones.knowing, phones.Phones.is_done):
            self.assertEqual(arguments(call), ["self"])

    def test_fields_are_copied_lists_within_too(self):
        inner, marks, absent = [1], [1, 0], [1]
        orders = [inner, []]
        one, other = Fewest(orders, marks), Worst(absent, 1)
        inner.append(9)
        orders.append([])
        marks.append(9)
        absent.append(9)
        self.assertEqual((one.orders, one.marks, other.absent), ([[1], []], [1, 0], [1]))
        one.orders[1].append(8)
        self.assertEqual(orders, [[1, 9], [], []])

    def test_lists_in_place_of_numbers_are_copied_too(self):
        one, other = [1], [[2]]
        made, worst = Wrong(one, other), Worst(one, other)
        one.clear()
        other[0].clear()
        self.assertEqual(vars(made), {"turn": [1], "spot": [[2]]})
        self.assertEqual(vars(worst), {"absent": [1], "turns": [[2]]})

    def test_fields_of_any_numbers_and_lengths_are_kept(self):
        rows = [[-1, 10 ** 5000], [], [0] * 100]
        made = Fewest(rows, [-5] * 90)
        self.assertTrue(made.orders == rows)
        self.assertEqual(made.marks, [-5] * 90)
        self.assertEqual(Fewest([], []).orders, [])
        self.assertEqual(Worst([], -1).absent, [])
        self.assertEqual(Worst([3, 3, -1], -1).absent, [3, 3, -1])

    def test_answer_is_under_nothing(self):
        self.assertEqual(Answer.__bases__, (object,))


if __name__ == "__main__":
    unittest.main()
