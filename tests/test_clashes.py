import unittest

from tests import kinds, made, plain, samples
from wordmelt.clashes import are_sure, clashes, doubt
from wordmelt.melting import ends

# Each with its clashes, told by hand.
CLASHES = {
    "no rules": ((), ()),
    "one rule": ((("ab", ""),), ()),
    "two rules without a clash": ((("ab", ""), ("c", "b")), ()),
    "lefts of the same letters that do not overlap": ((("abc", ""), ("acb", "b")), ()),
    "overlap at one letter": ((("ab", ""), ("bc", "")), ("abc",)),
    "overlap at one letter, the second rule first": ((("bc", ""), ("ab", "")), ("abc",)),
    "overlap at one letter at both ends": ((("ab", ""), ("ba", "")), ("aba", "bab")),
    "overlap at several letters": ((("abcc", ""), ("bcca", "c")), ("abcca", "bccabcc")),
    "overlap at one length and at another": (
        (("aab", ""), ("abaa", "")),
        ("aabaa", "abaaab", "abaab", "abaabaa"),
    ),
    "overlap with itself at one letter": ((("aba", ""),), ("ababa",)),
    "overlap with itself at one letter of two": ((("aa", ""),), ("aaa",)),
    "overlap with itself at two letters": ((("abab", ""),), ("ababab",)),
    "overlap with itself at two lengths": ((("aaa", "a"),), ("aaaa", "aaaaa")),
    "a left of one letter": ((("a", ""),), ()),
    "a left inside another one": ((("abc", ""), ("b", "")), ("abc",)),
    "a left inside another one, the lesser one first": ((("b", ""), ("abc", "")), ("abc",)),
    "a left inside another one at place 0": ((("abc", ""), ("ab", "")), ("abc",)),
    "a left inside another one at place 0, the lesser one first": ((("ab", ""), ("abc", "")), ("abc",)),
    "a left inside another one at its end": ((("abc", ""), ("bc", "")), ("abc",)),
    "a left inside another one at two places": ((("abab", "c"), ("ab", "")), ("abab", "ababab")),
    "the same left": ((("b", "a"), ("b", "")), ("b",)),
    "the same left of several letters": ((("ab", "a"), ("ab", "")), ("ab",)),
    "the same left that overlaps with itself": ((("aa", "a"), ("aa", "")), ("aa", "aaa")),
    "the same rule twice": ((("ab", "b"), ("ab", "b")), ("ab",)),
    "the same rule twice, overlapping with itself": ((("aa", "a"), ("aa", "a")), ("aa", "aaa")),
    "the order of texts, not that of words": ((("b", ""), ("b", "a"), ("aa", "")), ("aaa", "b")),
    "a clash that comes of several rules": ((("ab", ""), ("bc", ""), ("abc", "")), ("abc",)),
    "lefts of 6 letters": ((("aaaaac", ""), ("cbbbbb", "")), ("aaaaacbbbbb",)),
    "a left of 7 letters": ((("aaaaaac", ""), ("cbbbbb", "")), ("aaaaaacbbbbb",)),
    "lefts of 7 letters": ((("aaaaaac", ""), ("cbbbbbb", "")), ("aaaaaacbbbbbb",)),
}


class Clashes(unittest.TestCase):
    def test_clashes_told_by_hand(self):
        for name, (rules, expected) in CLASHES.items():
            with self.subTest(name):
                self.assertEqual(clashes(rules), expected)
                self.assertEqual(clashes(rules), expected)

    def test_the_edge_where_the_left_is_at_its_end(self):
        # In "abc" the second rule stands at place 1, at the last letter of the first left, then at its end.
        self.assertEqual(clashes((("ab", ""), ("bc", ""))), ("abc",))
        self.assertEqual(clashes((("ab", ""), ("c", ""))), ())
        self.assertEqual(clashes((("ab", ""), ("ca", ""))), ("cab",))

    def test_8_rules_and_more(self):
        lefts = [word for word in samples.words_in_order(2) if len(word) == 2]
        for number in (7, 8, 9):
            rules = tuple((left, "") for left in lefts[:number])
            words = [word for word in samples.words_in_order(3) if plain.is_clash(rules, word)]
            self.assertEqual(clashes(rules), tuple(sorted(words)))

    def test_the_same_as_all_words_that_are_clashes(self):
        words = samples.words_in_order(5)
        picker = made.Picker(31)
        for rules in made.many_rules()[:230:2] + [picker.rules(8, 3) for _ in range(40)]:
            expected = sorted(word for word in words if plain.is_clash(rules, word))
            told = clashes(rules)
            self.assertEqual(told, tuple(expected), rules)
            self.assertTrue(kinds.is_told(told))

    def test_the_same_as_all_words_that_are_clashes_of_longer_lefts(self):
        words = samples.words_in_order(7)
        picker = made.Picker(32)
        for rules in [picker.rules(5, 4) for _ in range(12)]:
            expected = sorted(word for word in words if plain.is_clash(rules, word))
            self.assertEqual(clashes(rules), tuple(expected), rules)

    def test_each_word_is_a_clash_of_the_longest_lefts(self):
        picker = made.Picker(33)
        for rules in [picker.rules(8, 6) for _ in range(60)]:
            for word in clashes(rules):
                self.assertTrue(plain.is_clash(rules, word), (rules, word))


class Doubt(unittest.TestCase):
    def assert_has_two_ends(self, rules, word):
        self.assertIs(type(word), str, rules)
        self.assertLessEqual(len(word), 12)
        self.assertEqual(set(word) - set("abc"), set())
        self.assertGreaterEqual(len(ends(rules, word)), 2)
        self.assertGreaterEqual(len(plain.ends(rules, word)), 2)

    def test_sure_rules(self):
        for name, rules in made.SURE.items():
            with self.subTest(name):
                self.assertIsNone(doubt(rules))
                self.assertIs(are_sure(rules), True)
                known = {}
                for word in samples.words_in_order(7):
                    self.assertEqual(len(plain.ends(rules, word, known)), 1, word)

    def test_rules_that_are_not_sure(self):
        for name, rules in made.UNSURE.items():
            with self.subTest(name):
                self.assert_has_two_ends(rules, doubt(rules))
                self.assertIs(are_sure(rules), False)
                self.assertEqual(doubt(rules), doubt(rules))

    def test_a_clash_whose_steps_lead_on_to_one_end(self):
        self.assertIsNone(doubt((("ba", "ab"), ("cb", "bc"), ("ca", "ac"))))
        self.assert_has_two_ends((("ba", "ab"), ("cb", "bc")), doubt((("ba", "ab"), ("cb", "bc"))))

    def test_only_the_last_clashes_lead_to_unlike_ends(self):
        rules = (("aa", "a"), ("bb", "b"), ("cc", ""), ("cb", ""))
        self.assert_has_two_ends(rules, doubt(rules))

    def test_rules_in_any_order(self):
        picker = made.Picker(41)
        for rules in list(made.SURE.values()) + list(made.UNSURE.values()):
            self.assertIs(are_sure(picker.shuffled(rules)), are_sure(rules), rules)

    def test_many_rules(self):
        sure = 0
        for rules in made.many_rules():
            word = doubt(rules)
            self.assertIs(are_sure(rules), word is None)
            if word is None:
                sure += 1
                known = {}
                for other in samples.words_in_order(5):
                    self.assertEqual(len(plain.ends(rules, other, known)), 1, (rules, other))
            else:
                self.assert_has_two_ends(rules, word)
        self.assertGreater(sure, 50)
        self.assertGreater(len(made.many_rules()) - sure, 50)

    def test_long_lefts_up_to_a_clash_of_twelve_letters_and_beyond(self):
        for one, other in (("aaaac", "cbbbbb"), ("aaaaac", "cbbbbb"), ("aaaaaac", "cbbbbb")):
            rules = ((one, ""), (other, ""))
            self.assert_has_two_ends(rules, doubt(rules))
            # Each left less one letter of its own: both steps of the clash lead on to the same word.
            self.assertIsNone(doubt(((one, one[1:]), (other, other[:-1]))))
        self.assertIs(are_sure((("aaaaaac", ""), ("cbbbbbb", ""))), False)

    def test_a_short_word_is_told_though_longer_clashes_are_there(self):
        rules = (("aaaaaac", ""), ("cbbbbbb", ""), ("ba", "a"), ("ba", "b"))
        self.assert_has_two_ends(rules, doubt(rules))

    def test_8_rules_and_more(self):
        letters_go = (("a", ""), ("b", ""), ("c", ""))
        more = tuple((word, "") for word in samples.words_in_order(2)[4:])
        for number in (7, 8, 9, 10):
            rules = (letters_go + more)[:number]
            self.assertIsNone(doubt(rules))
            rules = (more + (("c", "b"), ("c", "a")))[-number:]
            self.assert_has_two_ends(rules, doubt(rules))


if __name__ == "__main__":
    unittest.main()
