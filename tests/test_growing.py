import unittest

from tests import kinds, made, plain, samples
from wordmelt.clashes import are_sure
from wordmelt.growing import grown, lean
from wordmelt.melting import end, ends

# Each with what grows of it, told by hand.
GROWN = {
    "one rule grows": ((("ab", ""), ("bc", "")), (("c", "a"),)),
    "several grow": (
        (("aab", "b"), ("abaa", "a")),
        (("abab", "b"), ("abb", "ab"), ("abbaa", "a"), ("baa", "aa")),
    ),
    "two clashes give the same rule": ((("b", "a"), ("b", ""), ("c", "a"), ("c", "")), (("a", ""),)),
    "the order by right where the left is the same": (
        (("ba", "c"), ("ba", "b"), ("ca", "c"), ("ca", "a")),
        (("c", "a"), ("c", "b")),
    ),
    "the order of texts, not that of words": (
        (("bc", "b"), ("bc", "a"), ("aac", "ab"), ("aac", "aa")),
        (("ab", "aa"), ("b", "a")),
    ),
    "the greatest end is the one with more letters": ((("ca", "b"), ("c", "a")), (("aa", "b"),)),
    "of three ends the greatest and the least": ((("c", "a"), ("c", "b"), ("c", "")), (("b", ""),)),
    "the ends that come by the first of places": (
        (("cab", "ab"), ("cab", "a"), ("ab", "b"), ("ab", "")),
        (("b", ""), ("cb", "a")),
    ),
    "an end that lies several steps on": ((("aab", "cc"), ("aab", "b"), ("c", "a")), (("aa", "b"),)),
    "longer lefts": ((("aaaaac", "b"), ("cbbbbb", "b")), (("bbbbbb", "aaaaab"),)),
}

# Each with its lean rules, told by hand.
LEAN = {
    "no rules": ((), ()),
    "rules that are lean": ((("ab", ""),), (("ab", ""),)),
    "a right that is no end yet": ((("c", "b"), ("b", "a")), (("b", "a"), ("c", "a"))),
    "a right that is several steps from its end": (
        (("aac", "bb"), ("b", "a")),
        (("aac", "aa"), ("b", "a")),
    ),
    "a left in which another one stands": ((("abc", "ac"), ("b", "")), (("b", ""),)),
    "a left in which another one stands at place 0": ((("abc", "bc"), ("a", "")), (("a", ""),)),
    "a left in which another one stands at its end": ((("c", ""), ("abc", "ab")), (("c", ""),)),
    "a left inside a left inside a left": ((("abca", "aa"), ("bc", ""), ("abc", "a")), (("bc", ""),)),
    "the same left": ((("c", "b"), ("c", "a"), ("b", "a")), (("b", "a"), ("c", "a"))),
    "the same left, the other one first": ((("b", "a"), ("c", "a"), ("c", "b")), (("b", "a"), ("c", "a"))),
    "the same rule twice": ((("ba", "ab"), ("ba", "ab")), (("ba", "ab"),)),
    "the order of texts, not that of words": ((("c", "a"), ("bb", "b")), (("bb", "b"), ("c", "a"))),
    "everything at once": (
        (("cc", "b"), ("b", "a"), ("cc", "a"), ("bcc", "ba"), ("b", "a"), ("aa", ""), ("ca", "ac")),
        (("aa", ""), ("b", "a"), ("ca", "ac"), ("cc", "a")),
    ),
}

# Rules that say the same, by groups.
SAYING_THE_SAME = {
    "turns of a triangle": (
        (("aa", ""), ("bb", ""), ("bab", "aba")),
        (("aa", ""), ("bb", ""), ("ababab", "")),
        (("bababa", ""), ("bb", ""), ("aaa", "a"), ("aa", "")),
    ),
    "a ring of three": (
        (("aaa", ""), ("b", "a"), ("c", "")),
        (("c", ""), ("b", "a"), ("aaaaaa", ""), ("aaaaa", "aa")),
    ),
    "letters in order": (
        (("ba", "ab"), ("cb", "bc"), ("ca", "ac")),
        (("cba", "abc"), ("ba", "ab"), ("ca", "ac"), ("cb", "bc")),
    ),
    "all is one": ((("a", ""), ("b", ""), ("c", "")), (("c", "b"), ("b", "a"), ("aa", "a"), ("ba", "a"), ("a", ""))),
}


class Grown(unittest.TestCase):
    def test_rules_of_which_nothing_grows(self):
        for name, rules in made.SURE.items():
            with self.subTest(name):
                self.assertEqual(grown(rules), rules)

    def test_what_grows_told_by_hand(self):
        for name, (rules, more) in GROWN.items():
            with self.subTest(name):
                told = grown(rules)
                self.assertEqual(told, rules + more)
                self.assertTrue(kinds.is_told(told))
                self.assertEqual(grown(rules), told)

    def test_the_rules_stay_in_their_order(self):
        rules = (("bc", ""), ("ab", ""), ("bc", ""))
        self.assertEqual(grown(rules), rules + (("c", "a"),))

    def test_more_than_8_rules_come(self):
        rules = tuple((left, "") for left in ("ab", "bc", "ca", "ac", "ba", "cb"))
        for number in (7, 8, 9):
            more = rules + (("ab", ""),) * (number - 6)
            self.assertEqual(grown(more), more + (("b", "a"), ("c", "a"), ("c", "b")))

    def test_each_rule_comes_of_a_clash(self):
        words = samples.words_in_order(5)
        picker = made.Picker(61)
        for rules in made.many_rules()[:230:2] + [picker.rules(8, 3) for _ in range(40)]:
            expected = set()
            for word in words:
                if plain.is_clash(rules, word):
                    found = {plain.first_end(rules, one) for one in plain.nexts(rules, word)}
                    if len(found) > 1:
                        expected.add((max(found, key=plain.rank), min(found, key=plain.rank)))
            told = grown(rules)
            self.assertEqual(told, rules + tuple(sorted(expected)), rules)
            self.assertTrue(kinds.is_told(told))

    def test_nothing_grows_just_if_the_rules_are_sure(self):
        for rules in made.many_rules():
            self.assertIs(grown(rules) == rules, are_sure(rules), rules)

    def test_rules_grown_until_nothing_grows_are_sure(self):
        number = 0
        for rules in made.many_rules():
            more = made.ended(rules)
            if more is not None and more != rules:
                number += 1
                self.assertIs(are_sure(more), True)
                known = {}
                for word in samples.words_in_order(4):
                    self.assertEqual(len(plain.ends(more, word, known)), 1, (more, word))
        self.assertGreater(number, 50)


class Lean(unittest.TestCase):
    def assert_lean(self, told):
        self.assertTrue(kinds.is_told(told))
        lefts = [left for left, _ in told]
        self.assertEqual(lefts, sorted(set(lefts)))
        for left, right in told:
            self.assertLess(plain.rank(right), plain.rank(left))
            self.assertEqual(plain.nexts(told, right), set())
            self.assertFalse([other for other in lefts if other != left and other in left])

    def test_lean_rules_told_by_hand(self):
        for name, (rules, expected) in LEAN.items():
            with self.subTest(name):
                self.assertTrue(are_sure(rules))
                self.assertEqual(lean(rules), expected)
                self.assertEqual(lean(rules), expected)

    def test_the_ends_are_the_same_and_lean_of_lean_is_the_same(self):
        number = 0
        for rules in made.many_rules():
            rules = made.ended(rules)
            if rules is not None:
                number += 1
                told = lean(rules)
                self.assert_lean(told)
                self.assertEqual(lean(told), told)
                self.assertIs(are_sure(told), True)
                for word in samples.words_in_order(4) + ["abcabcabc", "ccccbbbbaaaa"]:
                    self.assertEqual(end(told, word), end(rules, word), (rules, word))
        self.assertGreater(number, 100)

    def test_all_ends_are_the_same(self):
        for rules in made.SURE.values():
            for word in samples.words_in_order(4):
                self.assertEqual(ends(lean(rules), word), ends(rules, word), (rules, word))

    def test_the_same_rules_in_another_order(self):
        picker = made.Picker(71)
        for rules in list(made.SURE.values()) + [rules for rules, _ in LEAN.values()]:
            for _ in range(4):
                self.assertEqual(lean(picker.shuffled(rules)), lean(rules), rules)

    def test_rules_more_that_follow_from_the_others(self):
        picker = made.Picker(72)
        for rules in made.SURE.values():
            if rules:
                for most_letters in (4, 6, 12):
                    more = made.that_follow(picker, rules, 6, most_letters)
                    self.assertEqual(lean(rules + more), lean(rules), (rules, more))
                    self.assertEqual(lean(picker.shuffled(more + rules + more)), lean(rules), (rules, more))

    def test_rules_that_say_the_same_by_other_rules(self):
        for name, several in SAYING_THE_SAME.items():
            with self.subTest(name):
                told = [lean(made.ended(rules)) for rules in several]
                self.assertEqual(told, [told[0]] * len(several))

    def test_rules_that_say_something_else(self):
        self.assertNotEqual(lean((("aa", ""),)), lean((("aaa", ""),)))
        self.assertNotEqual(lean((("ba", "ab"),)), lean((("ba", ""),)))

    def test_7_to_10_rules_and_many(self):
        letters_go = (("a", ""), ("b", ""), ("c", ""))
        words = [(word, "") for word in samples.words_in_order(3)[4:]]
        for number in (7, 8, 9, 10, 30):
            self.assertEqual(lean((tuple(words) + letters_go)[-number:]), letters_go)
        nine = tuple((word, "a") for word in samples.words_in_order(2)[4:])
        self.assertTrue(are_sure(nine))
        self.assertEqual(lean(nine), nine)

    def test_lefts_of_11_to_13_letters(self):
        for length in (5, 6, 7, 11, 12, 13):
            left = "c" * (length - 1) + "a"
            self.assertEqual(lean(((left, left[1:]),)), ((left, left[1:]),))
            self.assertEqual(lean(((left, "b"), ("b", ""))), (("b", ""), (left, "")))
            self.assertEqual(lean(((left, left[1:]), ("ca", "a"))), (("ca", "a"),))


if __name__ == "__main__":
    unittest.main()
