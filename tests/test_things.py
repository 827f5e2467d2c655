import copy
import itertools
import unittest

from tests import samples
from wordmelt.things import are_rules, is_less, is_word


class Words(unittest.TestCase):
    def test_words_of_each_length(self):
        for length in range(13):
            for letters in ("a", "b", "c", "abc", "cab"):
                word = (letters * 12)[:length]
                self.assertIs(is_word(word), True, word)

    def test_the_edge_of_twelve_letters(self):
        self.assertIs(is_word("abcabcabcab"), True)
        self.assertIs(is_word("abcabcabcabc"), True)
        self.assertIs(is_word("abcabcabcabca"), False)

    def test_the_empty_word(self):
        self.assertIs(is_word(""), True)

    def test_what_is_no_word(self):
        for name, thing in samples.NO_WORDS.items():
            with self.subTest(name):
                self.assertIs(is_word(thing), False)

    def test_each_sign_by_itself_and_beside_letters(self):
        for sign in [chr(code) for code in range(ord(" "), ord("~") + 1)] + ["\t", "\n"]:
            for text in (sign, sign + "a", "b" + sign, "c" + sign + "a"):
                self.assertIs(is_word(text), sign in ("a", "b", "c"), repr(text))


class Order(unittest.TestCase):
    def test_all_short_words_by_their_place_in_the_order(self):
        words = samples.words_in_order(3)
        for (i, one), (j, other) in itertools.product(enumerate(words), repeat=2):
            self.assertIs(is_less(one, other), i < j, (one, other))

    def test_long_words(self):
        self.assertIs(is_less("c" * 11, "a" * 12), True)
        self.assertIs(is_less("a" * 12, "c" * 11), False)
        self.assertIs(is_less("a" * 11 + "b", "a" * 11 + "c"), True)
        self.assertIs(is_less("a" * 12, "a" * 12), False)


class Rules(unittest.TestCase):
    def test_what_is_rules(self):
        for name, (rules, _) in samples.RULES.items():
            with self.subTest(name):
                self.assertIs(are_rules(rules), True)

    def test_what_is_no_rules(self):
        for name, thing in samples.NO_RULES.items():
            with self.subTest(name):
                self.assertIs(are_rules(thing), False)

    def test_each_number_of_rules(self):
        for number in range(12):
            self.assertIs(are_rules((("ba", "ab"),) * number), number <= 8, number)
        self.assertIs(are_rules(samples.EIGHT_RULES[:7]), True)
        self.assertIs(are_rules(samples.EIGHT_RULES), True)
        self.assertIs(are_rules(samples.NINE_RULES), False)

    def test_each_length_of_a_left(self):
        for length in range(14):
            self.assertIs(are_rules((("b" * length, ""),)), 1 <= length <= 6, length)

    def test_each_length_of_a_right(self):
        for length in range(14):
            self.assertIs(are_rules((("bbbbbb", "a" * length),)), length <= 6, length)
            self.assertIs(are_rules((("bbbbbb", "c" * length),)), length <= 5, length)

    def test_the_right_is_less_for_all_short_words(self):
        words = samples.words_in_order(3)
        for (i, left), (j, right) in itertools.product(enumerate(words), repeat=2):
            self.assertIs(are_rules(((left, right),)), j < i, (left, right))

    def test_each_rule_is_asked(self):
        for place in range(8):
            rules = list(samples.EIGHT_RULES)
            rules[place] = ("b", "c")
            self.assertIs(are_rules(tuple(rules)), False, place)


class Asking(unittest.TestCase):
    def test_nothing_is_changed_and_the_same_is_told_again(self):
        for things, tell in ((samples.NO_WORDS, is_word), (samples.NO_RULES, are_rules)):
            for name, thing in things.items():
                with self.subTest(name):
                    before = copy.deepcopy(thing)
                    self.assertIs(tell(thing), False)
                    self.assertEqual(thing, before)
                    self.assertIs(tell(thing), False)

    def test_what_was_asked_before_does_not_matter(self):
        for _ in range(3):
            self.assertIs(is_word("abc"), True)
            self.assertIs(is_word("abd"), False)
            self.assertIs(are_rules((("b", "a"),)), True)
            self.assertIs(are_rules((("a", "b"),)), False)


if __name__ == "__main__":
    unittest.main()
