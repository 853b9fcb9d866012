import unittest

from spentonce import errors

REFUSALS = (
    "NoLock", "NoDeed", "NoFit", "NoBlock", "BadBlock", "NoRules",
    "Known", "NoAhead", "NoSuch", "Other", "NoText", "NoRow",
)


class ErrorsTest(unittest.TestCase):
    def test_coin_error_is_a_value_error(self):
        self.assertTrue(issubclass(errors.CoinError, ValueError))

    def test_each_refusal_is_a_coin_error(self):
        for name in REFUSALS:
            with self.subTest(name):
                refusal = getattr(errors, name)
                self.assertTrue(issubclass(refusal, errors.CoinError))
                self.assertIsNot(refusal, errors.CoinError)
                self.assertEqual(refusal.__name__, name)

    def test_no_refusal_stands_under_another(self):
        for name in REFUSALS:
            for other in REFUSALS:
                with self.subTest(name, other=other):
                    under = issubclass(getattr(errors, name), getattr(errors, other))
                    self.assertEqual(under, name == other)

    def test_each_is_raised_and_taken_with_words(self):
        for name in REFUSALS:
            with self.subTest(name), self.assertRaises(errors.CoinError) as taken:
                raise getattr(errors, name)("why")
            self.assertEqual(str(taken.exception), "why")


if __name__ == "__main__":
    unittest.main()
