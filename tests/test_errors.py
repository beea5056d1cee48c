import unittest

from nearsums import errors

NAMES = ["NoPlan", "NoNumber", "NoKind", "NoPlace", "NoRow", "NoCut", "NoPart", "NoSum", "TooMany", "NoText",
         "NoName", "NoSaying"]


class TestErrors(unittest.TestCase):
    def test_sum_error_stands_straight_under_value_error(self):
        self.assertEqual(errors.SumError.__bases__, (ValueError,))

    def test_each_stands_straight_under_sum_error(self):
        for name in NAMES:
            with self.subTest(name=name):
                self.assertEqual(getattr(errors, name).__bases__, (errors.SumError,))

    def test_none_stands_under_another(self):
        for name in NAMES:
            for other in NAMES:
                with self.subTest(name=name, other=other):
                    stands = issubclass(getattr(errors, name), getattr(errors, other))
                    self.assertEqual(stands, name == other)

    def test_each_bears_its_name(self):
        for name in NAMES + ["SumError"]:
            with self.subTest(name=name):
                self.assertEqual(getattr(errors, name).__name__, name)

    def test_each_can_be_raised_and_taken_as_the_broad_ones(self):
        for name in NAMES:
            for broad in (errors.SumError, ValueError):
                with self.subTest(name=name, broad=broad):
                    with self.assertRaises(broad):
                        raise getattr(errors, name)("words")


if __name__ == "__main__":
    unittest.main()
