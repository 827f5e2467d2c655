import copy
import unittest

from tests import samples
from wordmelt.errors import MeltError, NoRules, NoStep, NoText
from wordmelt.writing import written


class Writing(unittest.TestCase):
    def test_rules_and_their_writing(self):
        for name, (rules, text) in samples.RULES.items():
            with self.subTest(name):
                self.assertEqual(written(rules), text)

    def test_each_number_of_rules(self):
        rules = samples.EIGHT_RULES
        self.assertEqual(written(rules[:0]), "none")
        for number in range(1, 9):
            text = written(rules[:number])
            self.assertEqual(text, " ; ".join([left + " to -" for left, _ in rules[:number]]))

    def test_the_longest_left_is_written_and_a_longer_one_is_not(self):
        self.assertEqual(written((("ccccc", "ccccb"),)), "ccccc to ccccb")
        self.assertEqual(written((("cccccc", "cccccb"),)), "cccccc to cccccb")
        self.assertRaises(NoRules, written, (("ccccccc", "ccccccb"),))

    def test_the_order_of_the_rules_stays(self):
        self.assertEqual(written((("b", "a"), ("a", ""))), "b to a ; a to -")
        self.assertEqual(written((("a", ""), ("b", "a"))), "a to - ; b to a")


class Refusing(unittest.TestCase):
    def test_what_is_no_rules(self):
        for name, thing in samples.NO_RULES.items():
            with self.subTest(name):
                with self.assertRaises(NoRules) as caught:
                    written(thing)
                self.assertIsInstance(caught.exception, MeltError)
                self.assertIsInstance(caught.exception, ValueError)
                self.assertNotIsInstance(caught.exception, (NoText, NoStep))

    def test_nothing_is_changed_and_the_same_is_told_again(self):
        for name, thing in samples.NO_RULES.items():
            with self.subTest(name):
                before = copy.deepcopy(thing)
                self.assertRaises(NoRules, written, thing)
                self.assertEqual(thing, before)
                self.assertRaises(NoRules, written, thing)
        for name, (rules, text) in samples.RULES.items():
            with self.subTest(name):
                before = copy.deepcopy(rules)
                self.assertEqual([written(rules), written(rules)], [text, text])
                self.assertEqual(rules, before)


if __name__ == "__main__":
    unittest.main()
