import itertools
import re
import unittest

from tests import samples
from wordmelt.errors import MeltError, NoRules, NoStep, NoText
from wordmelt.reading import read
from wordmelt.writing import written

NO_WRITINGS = {
    "the empty text": "",
    "a blank": " ",
    "blanks": "   ",
    "a tab": "\t",
    "a row's end": "\n",
    "a blank ahead": " ab to b",
    "a blank behind": "ab to b ",
    "a blank too many ahead of to": "ab  to b",
    "a blank too many behind to": "ab to  b",
    "a blank too many ahead of ;": "ab to b  ; a to -",
    "a blank too many behind ;": "ab to b ;  a to -",
    "a blank within a left": "a b to b",
    "a blank within a right": "abc to b a",
    "a blank within to": "ab t o b",
    "a blank too few ahead of to": "abto b",
    "a blank too few behind to": "ab tob",
    "no blanks": "abtob",
    "a blank too few ahead of ;": "ab to b; a to -",
    "a blank too few behind ;": "ab to b ;a to -",
    "no blanks around ;": "ab to b;a to -",
    "a tab in the place of a blank": "ab\tto b",
    "a tab behind to": "ab to\tb",
    "a tab ahead": "\tab to b",
    "a tab behind": "ab to b\t",
    "a row's end behind": "ab to b\n",
    "a row's end ahead": "\nab to b",
    "a row's end in the place of a blank": "ab to\nb",
    "a row's end in the place of ;": "ab to b\na to -",
    "a row's end beside ;": "ab to b ;\na to -",
    "a blank ahead of none": " none",
    "a blank behind none": "none ",
    "a row's end behind none": "none\n",
    "none with a capital": "None",
    "none twice": "none ; none",
    "none twice, without ;": "none none",
    "none ahead of a rule": "none ; ab to b",
    "none behind a rule": "ab to b ; none",
    "none as a left": "none to b",
    "none as a right": "ab to none",
    "half of none": "non",
    "- as a left": "- to -",
    "- as a left, and a right": "- to a",
    "- by itself": "-",
    "- twice": "a to --",
    "- twice, with a blank": "a to - -",
    "- beside a letter": "ab to -a",
    "- behind a letter": "ab to a-",
    "no left": " to b",
    "no left and no blank": "to b",
    "no right": "ab to ",
    "no right and no blank": "ab to",
    "a left by itself": "ab",
    "a left with a right behind it": "ab b",
    "the left twice": "ab ab to b",
    "the right twice": "ab to b b",
    "to twice": "ab to to b",
    "to by itself": "to",
    "to with a capital": "ab To b",
    "to and more": "ab too b",
    "another word for to": "ab is b",
    "an arrow for to": "ab -> b",
    "a chain": "c to b to a",
    "; left out": "ab to b a to -",
    "; left out, with two blanks": "ab to b  a to -",
    "; twice": "ab to b ; ; a to -",
    "; twice, with two blanks": "ab to b ;  ; a to -",
    "; twice in one place": "ab to b ;; a to -",
    "; at the end": "ab to b ;",
    "; and a blank at the end": "ab to b ; ",
    "; at the start": "; ab to b",
    "a blank and ; at the start": " ; ab to b",
    "; by itself": ";",
    "; by itself with blanks": " ; ",
    "a comma for ;": "ab to b , a to -",
    "nine rules": " ; ".join([left + " to -" for left, _ in samples.NINE_RULES]),
    "nine times the same rule": " ; ".join(["b to a"] * 9),
    "a hundred rules": " ; ".join(["b to a"] * 100),
    "a left of 7 letters": "aaaaaaa to a",
    "a left of 13 letters": "aaaaaaaaaaaaa to a",
    "a right like its left": "ab to ab",
    "a right of as many letters that comes later": "ab to ba",
    "a right that is longer": "b to aa",
    "a right that is longer and comes first in the order of texts": "b to ab",
    "a wrong rule behind a right one": "ab to b ; a to a",
    "a wrong rule ahead of a right one": "a to a ; ab to b",
    "another letter in a left": "abd to b",
    "another letter in a right": "abc to d",
    "a capital in a left": "aB to b",
    "a capital in a right": "ab to B",
    "a digit as a right": "ab to 1",
    "quotes": "'ab' to 'b'",
    "the rules as Python shows them": "(('ab', 'b'),)",
    "another text": "words melted by rules",
}

SIGNS = "abcdAto-;none \t\n~"
ONE_RULE = re.compile("([abc]{1,6}) to ([abc]{1,6}|-)")


def place_in_order(word):
    """A number for each word, greater for a greater word."""
    place = 0
    for letter in word:
        place = place * 3 + " abc".index(letter)
    return place


def expected(text):
    """The rules of which the text is the writing, None where there are none; told without the program."""
    if text == "none":
        return ()
    found = [ONE_RULE.fullmatch(part) for part in text.split(" ; ")]
    if len(found) > 8 or None in found:
        return None
    rules = tuple((one.group(1), one.group(2).replace("-", "")) for one in found)
    if all(place_in_order(right) < place_in_order(left) for left, right in rules):
        return rules
    return None


def one_sign_changed(text):
    """All texts in which one sign of SIGNS is put in, or one sign is left out, changed or doubled."""
    for place in range(len(text) + 1):
        for sign in SIGNS:
            yield text[:place] + sign + text[place:]
    for place in range(len(text)):
        yield text[:place] + text[place + 1 :]
        yield text[:place] + text[place] + text[place:]
        for sign in SIGNS:
            yield text[:place] + sign + text[place + 1 :]


class Reading(unittest.TestCase):
    def answer(self, text):
        try:
            return read(text)
        except NoText:
            return None

    def test_each_writing_is_read(self):
        for name, (rules, text) in samples.RULES.items():
            with self.subTest(name):
                self.assertEqual(read(text), rules)

    def test_what_is_written_is_read_to_the_same_rules(self):
        for name, (rules, _) in samples.RULES.items():
            with self.subTest(name):
                self.assertEqual(read(written(rules)), rules)
        words = samples.words_in_order(3)
        for left, right in itertools.product(words, repeat=2):
            if words.index(right) < words.index(left):
                rules = (("b", ""), (left, right), ("cb", "bc"))
                self.assertEqual(read(written(rules)), rules)
                self.assertEqual(read(written(rules[1:2])), rules[1:2])

    def test_tuples_are_told(self):
        for text in ("none", "ab to b", "ab to b ; a to -"):
            rules = read(text)
            self.assertIs(type(rules), tuple)
            for rule in rules:
                self.assertIs(type(rule), tuple)

    def test_the_edge_of_eight_rules(self):
        for number in (7, 8):
            self.assertEqual(read(" ; ".join(["b to a"] * number)), (("b", "a"),) * number)
        self.assertRaises(NoText, read, " ; ".join(["b to a"] * 9))

    def test_the_edge_of_six_letters(self):
        self.assertEqual(read("aaaaa to -"), (("aaaaa", ""),))
        self.assertEqual(read("aaaaaa to -"), (("aaaaaa", ""),))
        self.assertRaises(NoText, read, "aaaaaaa to -")

    def test_the_edge_of_what_is_less(self):
        self.assertEqual(read("bb to ba"), (("bb", "ba"),))
        self.assertRaises(NoText, read, "bb to bb")
        self.assertRaises(NoText, read, "bb to bc")

    def test_all_short_lefts_and_rights(self):
        parts = samples.words_in_order(2) + ["-", "d", "none", " ", "aaaaaa", "aaaaaaa"]
        for left, right in itertools.product(parts, repeat=2):
            text = left + " to " + right
            self.assertEqual(self.answer(text), expected(text), repr(text))

    def test_texts_that_differ_by_one_sign(self):
        for _, start in samples.RULES.values():
            for text in one_sign_changed(start):
                self.assertEqual(self.answer(text), expected(text), repr(text))

    def test_rows_of_parts(self):
        parts = ("b", "-", "to", ";", "none", "")
        for number in range(1, 7):
            for row in itertools.product(parts, repeat=number):
                text = " ".join(row)
                self.assertEqual(self.answer(text), expected(text), repr(text))


class Refusing(unittest.TestCase):
    def test_what_is_no_writing(self):
        for name, text in NO_WRITINGS.items():
            with self.subTest(name):
                with self.assertRaises(NoText) as caught:
                    read(text)
                self.assertIsInstance(caught.exception, MeltError)
                self.assertIsInstance(caught.exception, ValueError)
                self.assertNotIsInstance(caught.exception, (NoRules, NoStep))

    def test_the_same_is_told_again(self):
        for _ in range(2):
            self.assertEqual(read("ab to b ; a to -"), (("ab", "b"), ("a", "")))
            self.assertRaises(NoText, read, "ab to b ; a to")
            self.assertEqual(read("none"), ())


if __name__ == "__main__":
    unittest.main()
