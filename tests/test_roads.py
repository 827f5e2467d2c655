import unittest

from tests import kinds, made, plain, samples
from wordmelt.clashes import are_sure
from wordmelt.roads import road, same

SORTING = made.SURE["letters in order"]
TURNS = made.SURE["lefts that overlap at one letter, in many ways"]
INVERSE = made.SURE["lefts that overlap at one letter"]
LONG = "cba" * 6


class Roads(unittest.TestCase):
    def assert_road(self, rules, one, other):
        told = road(rules, one, other)
        self.assertIs(type(told), tuple, (rules, one, other))
        self.assertTrue(plain.is_road(rules, told), (rules, told))
        self.assertEqual((told[0], told[-1]), (one, other))
        self.assertTrue(kinds.is_told(told))
        self.assertEqual(road(rules, one, other), told)
        self.assertIs(same(rules, one, other), True)

    def assert_no_road(self, rules, one, other):
        self.assertIsNone(road(rules, one, other), (rules, one, other))
        self.assertIs(same(rules, one, other), False)

    def test_a_word_to_itself(self):
        for rules in made.SURE.values():
            for word in ("", "a", "abc", "ccba", LONG):
                self.assert_road(rules, word, word)

    def test_one_step_forward_and_one_step_back(self):
        self.assert_road(SORTING, "ba", "ab")
        self.assert_road(SORTING, "ab", "ba")
        self.assert_road((("c", "b"), ("b", "a")), "c", "b")
        self.assert_road((("c", "b"), ("b", "a")), "b", "c")

    def test_forward_alone_and_back_alone(self):
        self.assert_road(SORTING, "cba", "abc")
        self.assert_road(SORTING, "abc", "cba")
        self.assert_road(INVERSE, "aabb", "")
        self.assert_road(INVERSE, "", "aabb")

    def test_forward_and_then_back(self):
        self.assert_road(SORTING, "bca", "cab")
        self.assert_road(TURNS, "abab", "ba")
        self.assert_road(TURNS, "bababab", "b" * 9 + "a" * 6)
        self.assert_road(INVERSE, "ab", "ba")

    def test_ways_that_meet_ahead_of_the_end(self):
        rules = (("c", "b"), ("b", "a"))
        self.assert_road(rules, "ca", "bb")
        self.assert_road(rules, "cab", "aab")

    def test_words_far_from_each_other(self):
        self.assert_road(SORTING, LONG, "abc" * 6)
        self.assert_road(SORTING, LONG, "a" * 6 + "c" * 6 + "b" * 6)
        self.assert_road(INVERSE, "a" * 20 + "b" * 20, "ba" * 13)

    def test_words_of_11_to_13_letters(self):
        for length in (11, 12, 13):
            self.assert_road(SORTING, "c" * (length - 1) + "a", "cca" + "c" * (length - 3))
            self.assert_no_road(SORTING, "c" * (length - 1) + "a", "c" * length)

    def test_words_with_unlike_ends(self):
        self.assert_no_road(SORTING, "ab", "aab")
        self.assert_no_road(SORTING, "ab", "bb")
        self.assert_no_road(SORTING, "", "a")
        self.assert_no_road(SORTING, "a", "")
        self.assert_no_road(TURNS, "a", "b")
        self.assert_no_road(INVERSE, "aab", "abb")
        self.assert_no_road(INVERSE, LONG, "cba" * 5)

    def test_no_rules(self):
        self.assert_road((), "ab", "ab")
        self.assert_no_road((), "ab", "ba")

    def test_all_short_words(self):
        words = samples.words_in_order(4)[::3] + ["", "a", "b", "aabb", "cccc"]
        for name, rules in made.SURE.items():
            with self.subTest(name):
                known = {}
                for one in words:
                    for other in words:
                        if plain.ends(rules, one, known) == plain.ends(rules, other, known):
                            self.assert_road(rules, one, other)
                        else:
                            self.assert_no_road(rules, one, other)

    def test_what_roads_of_short_words_join_is_the_same(self):
        words = samples.words_in_order(4)
        for rules in made.SURE.values():
            group_of = plain.groups(rules, words)
            for one in words[::5]:
                for other in group_of[one]:
                    self.assertIs(same(rules, one, other), True, (rules, one, other))

    def test_many_rules_and_words(self):
        picker = made.Picker(51)
        roads = 0
        for rules in made.many_rules():
            if are_sure(rules):
                for _ in range(20):
                    one, other = picker.word(0, 8), picker.word(0, 8)
                    if plain.first_end(rules, one) == plain.first_end(rules, other):
                        self.assert_road(rules, one, other)
                        roads += 1
                    else:
                        self.assert_no_road(rules, one, other)
        self.assertGreater(roads, 50)


if __name__ == "__main__":
    unittest.main()
