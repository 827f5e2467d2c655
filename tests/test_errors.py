import unittest

from wordmelt.errors import MeltError, NoRules, NoStep, NoText

REFUSALS = (NoRules, NoText, NoStep)


class Errors(unittest.TestCase):
    def test_any_refusal_is_a_value_error(self):
        self.assertTrue(issubclass(MeltError, ValueError))

    def test_each_refusal_is_a_melt_error_of_its_own(self):
        for refusal in REFUSALS:
            self.assertTrue(issubclass(refusal, MeltError))
            self.assertIsNot(refusal, MeltError)

    def test_no_refusal_is_below_another(self):
        for one in REFUSALS:
            for other in REFUSALS:
                self.assertEqual(issubclass(one, other), one is other)


if __name__ == "__main__":
    unittest.main()
