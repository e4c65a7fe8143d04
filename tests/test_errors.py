import unittest

from callchain import errors

NAMES = ["BadUps", "BadOrders", "BadAbsent", "BadCalls", "BadMany", "BadPerson", "TooMany"]
KINDS = [getattr(errors, name) for name in NAMES]


class ErrorsTest(unittest.TestCase):
    def test_call_error_is_straight_under_value_error(self):
        self.assertEqual(errors.CallError.__bases__, (ValueError,))

    def test_the_seven_are_straight_under_call_error(self):
        for name, kind in zip(NAMES, KINDS):
            with self.subTest(name):
                self.assertEqual(kind.__name__, name)
                self.assertEqual(kind.__bases__, (errors.CallError,))

    def test_each_is_caught_as_itself_and_as_those_above(self):
        for kind in KINDS:
            for above in (kind, errors.CallError, ValueError):
                with self.subTest(kind=kind, above=above):
                    with self.assertRaises(above):
                        raise kind("why")

    def test_none_is_caught_as_another(self):
        for kind in KINDS:
            for other in KINDS:
                if other is not kind:
                    with self.subTest(kind=kind, other=other):
                        try:
                            raise kind("why")
                        except other:
                            self.fail("caught as another one")
                        except kind:
                            pass

    def test_call_error_itself_is_none_of_the_seven(self):
        for kind in KINDS:
            with self.subTest(kind):
                self.assertNotIsInstance(errors.CallError("why"), kind)

    def test_the_words_are_kept(self):
        for kind in KINDS:
            with self.subTest(kind):
                self.assertEqual(str(kind("why")), "why")


if __name__ == "__main__":
    unittest.main()
