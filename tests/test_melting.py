import unittest

from tests import kinds, made, plain, samples
from wordmelt.errors import MeltError, NoRules, NoStep, NoText
from wordmelt.melting import end, ends, nexts, places, stepped

SORTING = made.SURE["letters in order"]


class Places(unittest.TestCase):
    def test_no_rule_stands(self):
        self.assertEqual(places((("ab", ""), ("cc", "c")), "bacba"), ())

    def test_one_rule_at_several_places(self):
        self.assertEqual(places((("ab", ""),), "abcab"), ((0, 0), (3, 0)))

    def test_several_rules_at_one_place(self):
        rules = (("b", ""), ("bc", ""), ("a", ""), ("bca", "c"))
        self.assertEqual(places(rules, "bca"), ((0, 0), (0, 1), (0, 3), (2, 2)))

    def test_rules_with_the_same_left_and_the_same_rule_twice(self):
        rules = (("b", ""), ("b", "a"), ("b", ""))
        self.assertEqual(places(rules, "cb"), ((1, 0), (1, 1), (1, 2)))

    def test_places_that_overlap(self):
        self.assertEqual(places((("aa", ""),), "aaaa"), ((0, 0), (1, 0), (2, 0)))
        self.assertEqual(places((("aba", ""),), "ababa"), ((0, 0), (2, 0)))
        self.assertEqual(places((("bc", ""), ("ab", "")), "abc"), ((0, 1), (1, 0)))

    def test_a_left_at_the_very_end(self):
        self.assertEqual(places((("ca", ""),), "bbca"), ((2, 0),))
        self.assertEqual(places((("a", ""),), "bbca"), ((3, 0),))
        self.assertEqual(places((("cab", ""),), "bbca"), ())

    def test_a_left_that_is_the_word_and_one_that_is_longer(self):
        self.assertEqual(places((("abc", ""),), "abc"), ((0, 0),))
        self.assertEqual(places((("abca", ""),), "abc"), ())
        self.assertEqual(places((("aa", ""),), "a"), ())

    def test_the_empty_word_and_no_rules(self):
        self.assertEqual(places((("a", ""), ("bc", "")), ""), ())
        self.assertEqual(places((), "abc"), ())
        self.assertEqual(places((), ""), ())

    def test_the_pairs_rise_by_place_and_then_by_number(self):
        rules = (("c", ""), ("b", ""), ("a", ""), ("b", "a"))
        self.assertEqual(places(rules, "abc"), ((0, 2), (1, 1), (1, 3), (2, 0)))
        self.assertEqual(places((("b", "a"),), "b" * 12), tuple((place, 0) for place in range(12)))

    def test_words_of_11_to_14_letters_and_7_to_10_rules(self):
        for length in (11, 12, 13, 14):
            word = ("abc" * 5)[:length]
            for number in (7, 8, 9, 10):
                rules = (("abca", ""),) * (number - 1) + ((word[-2:], ""),)
                self.assertEqual(places(rules, word), tuple(plain.places(rules, word)))

    def test_lefts_of_5_to_7_letters(self):
        for length in (5, 6, 7):
            rules = (("b" * length, "a"),)
            self.assertEqual(places(rules, "b" * 6), tuple((place, 0) for place in range(7 - length)))

    def test_many_rules_and_words(self):
        for rules in made.many_rules():
            for word in samples.words_in_order(4):
                told = places(rules, word)
                self.assertEqual(told, tuple(plain.places(rules, word)), (rules, word))
                self.assertTrue(all(one < other for one, other in zip(told, told[1:])))
                self.assertTrue(kinds.is_told(told))


class Steps(unittest.TestCase):
    def assert_no_step(self, rules, word, place, k):
        with self.assertRaises(NoStep, msg=(rules, word, place, k)) as caught:
            stepped(rules, word, place, k)
        self.assertIsInstance(caught.exception, MeltError)
        self.assertIsInstance(caught.exception, ValueError)
        self.assertNotIsInstance(caught.exception, (NoRules, NoText))

    def test_the_right_is_put_in_the_place_of_the_left(self):
        rules = (("ab", "c"), ("ca", ""), ("bb", "ba"))
        self.assertEqual(stepped(rules, "abab", 0, 0), "cab")
        self.assertEqual(stepped(rules, "abab", 2, 0), "abc")
        self.assertEqual(stepped(rules, "bcab", 1, 1), "bb")
        self.assertEqual(stepped(rules, "ca", 0, 1), "")
        self.assertEqual(stepped(rules, "bbbb", 1, 2), "bbab")
        self.assertEqual(stepped(rules, "bbbb", 2, 2), "bbba")

    def test_each_pair_of_places_and_no_other_pair(self):
        for rules in made.many_rules()[::3]:
            for word in samples.words_in_order(3) + ["abcab", "aabbcc", "cabcabcabcabc"]:
                found = plain.places(rules, word)
                for place in range(-len(word) - 2, len(word) + 3):
                    for k in range(-len(rules) - 1, len(rules) + 2):
                        if (place, k) in found:
                            told = stepped(rules, word, place, k)
                            self.assertEqual(told, plain.step(rules, word, place, k), (rules, word, place, k))
                            self.assertTrue(kinds.is_told(told))
                        else:
                            self.assert_no_step(rules, word, place, k)

    def test_a_place_where_the_rule_does_not_stand(self):
        self.assert_no_step((("ab", ""),), "aab", 0, 0)
        self.assertEqual(stepped((("ab", ""),), "aab", 1, 0), "a")
        self.assert_no_step((("ab", ""),), "aab", 2, 0)

    def test_another_rule_stands_there(self):
        self.assert_no_step((("ab", ""), ("ba", "")), "ab", 0, 1)

    def test_the_word_s_end_and_beyond_it(self):
        for place in (2, 3, 100, 10**30):
            self.assert_no_step((("b", ""),), "ab", place, 0)
        self.assertEqual(stepped((("b", ""),), "ab", 1, 0), "a")

    def test_a_place_below_0_where_the_left_stands_counted_from_the_end(self):
        for place in (-1, -2, -3, -100, -(10**30)):
            self.assert_no_step((("b", ""),), "bb", place, 0)
        self.assert_no_step((("ab", ""),), "ab", -2, 0)
        self.assertEqual(stepped((("b", ""),), "bb", 0, 0), "b")

    def test_a_number_that_no_rule_has(self):
        rules = (("b", ""), ("b", "a"))
        self.assertEqual(stepped(rules, "b", 0, 0), "")
        self.assertEqual(stepped(rules, "b", 0, 1), "a")
        for k in (-1, -2, -3, 2, 3, 10**30, -(10**30)):
            self.assert_no_step(rules, "b", 0, k)
        self.assert_no_step((), "b", 0, 0)
        self.assert_no_step((), "", 0, 0)

    def test_the_empty_word(self):
        for place in (-1, 0, 1):
            self.assert_no_step((("b", ""),), "", place, 0)

    def test_the_8th_rule_and_one_beyond(self):
        rules = samples.EIGHT_RULES
        self.assertEqual(stepped(rules, "cba", 0, 7), "")
        self.assert_no_step(rules, "cba", 0, 8)
        self.assertEqual(stepped(samples.NINE_RULES, "cab", 0, 8), "")
        self.assert_no_step(samples.NINE_RULES, "cab", 0, 9)

    def test_the_same_is_told_again(self):
        for _ in range(2):
            self.assertEqual(stepped((("b", "a"),), "ab", 1, 0), "aa")
            self.assert_no_step((("b", "a"),), "ab", 0, 0)


class Nexts(unittest.TestCase):
    def test_no_step(self):
        self.assertEqual(nexts((("b", ""),), "aca"), ())
        self.assertEqual(nexts((), "aca"), ())
        self.assertEqual(nexts((("b", ""),), ""), ())

    def test_each_word_once(self):
        self.assertEqual(nexts((("a", ""),), "aaaa"), ("aaa",))
        self.assertEqual(nexts((("b", "a"), ("b", "a")), "bb"), ("ab", "ba"))
        self.assertEqual(nexts((("ab", "a"), ("b", "")), "ab"), ("a",))

    def test_the_order_of_texts(self):
        self.assertEqual(nexts((("ca", "b"), ("c", "a")), "ca"), ("aa", "b"))
        self.assertEqual(nexts((("c", "b"), ("c", "a"), ("c", "")), "cc"), ("ac", "bc", "c", "ca", "cb"))

    def test_the_same_as_all_steps(self):
        for rules in made.many_rules():
            for word in samples.words_in_order(4):
                told = nexts(rules, word)
                self.assertEqual(told, tuple(sorted(plain.nexts(rules, word))), (rules, word))
                self.assertTrue(all(plain.rank(one) < plain.rank(word) for one in told))
                self.assertTrue(kinds.is_told(told))


class Ends(unittest.TestCase):
    def test_a_word_in_which_no_rule_stands(self):
        self.assertEqual(ends((("b", ""),), "aca"), ("aca",))
        self.assertEqual(ends((), "aca"), ("aca",))
        self.assertEqual(ends((), ""), ("",))
        self.assertEqual(ends((("b", ""),), ""), ("",))

    def test_one_end_by_many_ways(self):
        self.assertEqual(ends(SORTING, "cba"), ("abc",))
        self.assertEqual(ends(SORTING, "ccbbaa"), ("aabbcc",))

    def test_two_ends_and_more(self):
        self.assertEqual(ends((("ab", ""), ("bc", "")), "abc"), ("a", "c"))
        self.assertEqual(ends((("c", "b"), ("c", "a")), "cc"), ("aa", "ab", "ba", "bb"))

    def test_two_ends_that_part_late(self):
        rules = (("c", "b"), ("bb", "ba"), ("bb", "ab"))
        self.assertEqual(ends(rules, "cc"), ("ab", "ba"))

    def test_the_order_of_texts(self):
        self.assertEqual(ends((("ca", "b"), ("c", "a")), "ca"), ("aa", "b"))

    def test_words_of_11_to_14_letters(self):
        for length in (11, 12, 13, 14):
            start = "c" * (length - 1)
            self.assertEqual(ends((("cb", "bc"),), start + "b"), ("b" + start,))
            self.assertEqual(ends((("b", ""), ("b", "a")), start + "b"), (start, start + "a"))

    def test_a_word_to_which_very_many_ways_lead(self):
        self.assertEqual(ends(SORTING, "cccbbbaaa"), ("aaabbbccc",))
        self.assertEqual(ends(made.SURE["letters go"], "abcabcabcabc"), ("",))

    def test_the_same_as_all_ways_tried_one_by_one(self):
        for rules in made.many_rules():
            known = {}
            for word in samples.words_in_order(4) + ["abcabc", "cbacb", "cccccc", "aabbaab"]:
                told = ends(rules, word)
                self.assertEqual(told, tuple(sorted(plain.ends(rules, word, known))), (rules, word))
                self.assertTrue(kinds.is_told(told))


class End(unittest.TestCase):
    def test_a_word_in_which_no_rule_stands(self):
        self.assertEqual(end((("b", ""),), "aca"), "aca")
        self.assertEqual(end((), "aca"), "aca")
        self.assertEqual(end((("b", ""),), ""), "")

    def test_the_first_place_is_taken(self):
        self.assertEqual(end((("bc", ""), ("ab", "")), "abc"), "c")
        self.assertEqual(end((("aba", "b"),), "ababa"), "bba")

    def test_of_several_rules_at_the_first_place_the_first_one(self):
        self.assertEqual(end((("c", "b"), ("c", "a")), "cc"), "bb")
        self.assertEqual(end((("c", "a"), ("c", "b")), "cc"), "aa")
        self.assertEqual(end((("ab", "c"), ("a", "")), "ab"), "c")
        self.assertEqual(end((("a", ""), ("ab", "c")), "ab"), "b")

    def test_a_step_may_make_an_earlier_place(self):
        self.assertEqual(end((("bb", "c"), ("ac", "")), "abbbb"), "c")
        self.assertEqual(end((("aab", ""), ("cc", "b")), "aacc"), "")

    def test_a_long_melting(self):
        self.assertEqual(end(SORTING, "cba" * 30), "a" * 30 + "b" * 30 + "c" * 30)
        self.assertEqual(end((("c", "b"), ("b", "a"), ("a", "")), "c" * 400), "")

    def test_the_same_as_step_by_step_and_among_the_ends(self):
        for rules in made.many_rules():
            for word in samples.words_in_order(4) + ["abcabc", "cbacb", "cccccc", "aabbaab"]:
                told = end(rules, word)
                self.assertEqual(told, plain.first_end(rules, word), (rules, word))
                self.assertIn(told, ends(rules, word))
                self.assertTrue(kinds.is_told(told))


if __name__ == "__main__":
    unittest.main()
