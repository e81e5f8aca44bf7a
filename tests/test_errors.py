import unittest

from nearnames import errors

REFUSALS = ["NoSize", "NoName", "NoHouse", "Taken", "Silent", "NoTown", "NoLine"]


class TestErrors(unittest.TestCase):
    def test_near_error_is_straight_under_value_error(self):
        self.assertEqual(errors.NearError.__bases__, (ValueError,))

    def test_each_refusal_is_straight_under_near_error(self):
        for word in REFUSALS:
            with self.subTest(word):
                self.assertEqual(getattr(errors, word).__bases__, (errors.NearError,))

    def test_no_refusal_is_another_one(self):
        for one in REFUSALS:
            for other in REFUSALS:
                with self.subTest(one=one, other=other):
                    below = issubclass(getattr(errors, one), getattr(errors, other))
                    self.assertEqual(below, one == other)

    def test_each_is_called_by_its_own_name(self):
        for word in REFUSALS + ["NearError"]:
            self.assertEqual(getattr(errors, word).__name__, word)

    def test_each_can_be_raised_and_taken_as_any_refusal(self):
        for word in REFUSALS:
            with self.subTest(word):
                with self.assertRaises(errors.NearError):
                    raise getattr(errors, word)("words")


if __name__ == "__main__":
    unittest.main()
