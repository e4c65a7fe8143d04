"""Things of kinds that are refused, and how it is tested that they are."""

import unittest


class Unlike:
    """An object that claims to equal all and fails on being hashed."""

    __hash__ = None

    def __eq__(self, other):
        return True


def ring():
    """A list that contains itself."""
    told = []
    told.append(told)
    return told


# So many figures that Python does not even write it out.
HUGE = 10 ** 5000

# Of any kind but numbers with a point, and none of them a number or a list.
NO_NUMBER_NO_LIST = [
    True, False, None, "", "0", "01", b"", b"\x00\x01", bytearray(b"\x01"), (), (0,), (1, 2), {}, {0: 0}, {1: []},
    set(), {1}, frozenset(), frozenset([1]), range(0), range(3), object(), Unlike(), 1j, ..., NotImplemented, int,
    list, len, lambda: 0, iter([]), iter([1]), (person for person in [1]), memoryview(b"\x01"), ValueError("1"),
]
NO_NUMBER = NO_NUMBER_NO_LIST + [[], [0], [1], [[]], ring()]
NO_LIST = NO_NUMBER_NO_LIST + [0, 1, -1, 40, 10 ** 100, HUGE, -HUGE]
NO_PERSON = NO_NUMBER + [-1, -40, 41, 1000, 10 ** 100, -10 ** 100, HUGE, -HUGE]
NO_TRUTH = [
    0, 1, -1, 2, None, "", "True", "False", b"", (), (True,), [], [True], {}, set(), object(), Unlike(), 1j, ...,
    NotImplemented, bool, HUGE,
]

# All of these are no ups, orders, absent ones.
NO_UPS = NO_LIST + [ring(), [1], [0, 2], [-1], [True], [False], [0, True], [0, "0"], [0, [0]], [0, None], [(0,)]]
NO_ORDERS = NO_LIST + [
    ring(), [], [[1]], [[0]], [[1], [0]], [[], []], [[1, 1], []], [[1], [1]], [[1, 2], [2], []], [[], [2], [1]],
    [[True], []], [[1], ()], [(1,), []], [[1], None], [["1"], []], [[1], [], []], [[2], []], [[-1], []],
    [[person] for person in range(1, 41)] + [[]], [[HUGE], []],
]
# Of three people.
NO_ABSENT = NO_LIST + [
    ring(), [0], [0, 1], [2, 1], [1, 1], [3], [1, 3], [-1], [-1, 1], [True], [False, 1], [None], ["1"], [[1]], [(1,)],
    [HUGE], [1, HUGE],
]


class KindsCase(unittest.TestCase):
    def refuses(self, error, call, *told):
        """Refused by just this error, not by one below or beside it."""
        with self.assertRaises(error) as caught:
            call(*told)
        self.assertIs(type(caught.exception), error)

    def refuses_all(self, error, things, call):
        for at, thing in enumerate(things):
            # Not shown itself: some things can't be.
            with self.subTest(at=at):
                self.refuses(error, call, thing)

    def is_plain_list(self, told, depth):
        """Lists within lists of plain whole numbers."""
        self.assertIs(type(told), list)
        for part in told:
            if depth == 1:
                self.assertIs(type(part), int)
            else:
                self.is_plain_list(part, depth - 1)

    def is_calls(self, told):
        """A list of plain triples."""
        self.assertIs(type(told), list)
        for call in told:
            self.assertIs(type(call), tuple)
            self.assertEqual([type(part) for part in call], [int, int, bool])
