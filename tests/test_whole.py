"""What the document promises over the whole program, of many rules and words that are made here."""

import copy
import importlib
import inspect
import unittest

from tests import kinds, made, plain, samples
from wordmelt.clashes import are_sure, clashes, doubt
from wordmelt.growing import grown, lean
from wordmelt.melting import end, ends, nexts, places, stepped
from wordmelt.roads import road, same
from wordmelt.things import are_rules, is_word
from wordmelt.writing import written

INTERFACE = {
    "things": {"is_word": ["thing"], "are_rules": ["thing"]},
    "writing": {"written": ["rules"]},
    "reading": {"read": ["text"]},
    "melting": {
        "places": ["rules", "word"],
        "stepped": ["rules", "word", "place", "k"],
        "nexts": ["rules", "word"],
        "ends": ["rules", "word"],
        "end": ["rules", "word"],
    },
    "clashes": {"clashes": ["rules"], "doubt": ["rules"], "are_sure": ["rules"]},
    "roads": {"road": ["rules", "one", "other"], "same": ["rules", "one", "other"]},
    "growing": {"grown": ["rules"], "lean": ["rules"]},
}


def picked_rules():
    picker = made.Picker(81)
    return (
        [picker.rules(3, 2) for _ in range(80)]
        + [picker.rules(5, 3) for _ in range(80)]
        + [picker.rules(8, 4) for _ in range(40)]
        + [picker.rules(8, 6) for _ in range(40)]
    )


ALL_RULES = picked_rules() + list(made.SURE.values()) + list(made.UNSURE.values())
SURE_RULES = [rules for rules in ALL_RULES if are_sure(rules)]
WORDS = samples.words_in_order(4) + ["abcabc", "cbacba", "aabbccaab", "cccbbbaaa"]


class Interface(unittest.TestCase):
    def test_names_and_arguments(self):
        for module, functions in INTERFACE.items():
            for name, arguments in functions.items():
                function = getattr(importlib.import_module("wordmelt." + module), name)
                self.assertEqual(list(inspect.signature(function).parameters), arguments, name)


class Melting(unittest.TestCase):
    """0.2 (a), 0.4 and 0.5."""

    def test_the_rules_made_here_are_rules(self):
        for rules in ALL_RULES:
            self.assertIs(are_rules(rules), True, rules)
        self.assertGreater(len(SURE_RULES), 60)
        self.assertGreater(len(ALL_RULES) - len(SURE_RULES), 60)

    def test_what_a_word_melts_to_is_less(self):
        for rules in ALL_RULES:
            for word in WORDS:
                for place, k in places(rules, word):
                    self.assertLess(plain.rank(stepped(rules, word, place, k)), plain.rank(word))
                for one in nexts(rules, word):
                    self.assertLess(plain.rank(one), plain.rank(word))
                for one in ends(rules, word):
                    self.assertLessEqual(plain.rank(one), plain.rank(word))

    def test_each_melting_ends_in_a_word_in_which_no_rule_stands(self):
        for rules in ALL_RULES:
            for word in WORDS:
                told = ends(rules, word)
                self.assertGreaterEqual(len(told), 1)
                self.assertIn(end(rules, word), told)
                for one in told:
                    self.assertEqual(places(rules, one), ())
                    self.assertEqual(ends(rules, one), (one,))

    def test_whatever_step_is_taken_an_end_comes(self):
        picker = made.Picker(82)
        for rules in ALL_RULES:
            word = start = picker.word(6, 12)
            found = places(rules, word)
            while found:
                word = stepped(rules, word, *found[picker.below(len(found))])
                found = places(rules, word)
            if len(plain.places(rules, start)) < 6:
                self.assertIn(word, ends(rules, start))


class OneEndOrTwo(unittest.TestCase):
    """0.2 (b)."""

    def test_each_word_has_one_end_or_a_word_with_two_is_told(self):
        for rules in ALL_RULES:
            told = doubt(rules)
            most = max(len(ends(rules, word)) for word in WORDS)
            if told is None:
                self.assertEqual(most, 1, rules)
            else:
                self.assertTrue(is_word(told), rules)
                self.assertGreater(len(ends(rules, told)), 1, rules)

    def test_the_clashes_tell_all(self):
        for rules in ALL_RULES:
            self.assertIs(are_sure(rules), all(len(ends(rules, word)) == 1 for word in clashes(rules)), rules)

    def test_a_word_with_two_ends_is_never_overlooked(self):
        words = samples.words_in_order(6)
        for rules in ALL_RULES[:80]:
            known = {}
            if any(len(plain.ends(rules, word, known)) > 1 for word in words):
                self.assertIsNotNone(doubt(rules), rules)


class OneRoad(unittest.TestCase):
    """0.2 (c)."""

    def test_a_road_leads_on_just_if_the_ends_are_the_same(self):
        for rules in SURE_RULES:
            for one in WORDS[::11]:
                for other in WORDS[::13]:
                    told = road(rules, one, other)
                    self.assertIs(told is not None, ends(rules, one) == ends(rules, other), (rules, one, other))
                    self.assertIs(same(rules, one, other), told is not None)
                    if told is not None:
                        self.assertTrue(plain.is_road(rules, told), (rules, told))
                        self.assertEqual((told[0], told[-1]), (one, other))

    def test_roads_lead_back_and_on(self):
        for rules in SURE_RULES:
            for word in WORDS[::7]:
                for one in nexts(rules, word):
                    self.assertIs(same(rules, one, word), True)
                    for other in nexts(rules, word):
                        self.assertIs(same(rules, one, other), True)


class Growing(unittest.TestCase):
    """0.2 (d)."""

    def test_grown_rules_lead_by_roads_to_no_other_words(self):
        for rules in ALL_RULES:
            # Both parts of a rule more are ends of one clash, so a road led from one to the other before.
            found = [ends(rules, word) for word in clashes(rules)]
            for left, right in grown(rules)[len(rules) :]:
                self.assertTrue(any(left in one and right in one for one in found), (rules, left, right))
                self.assertLess(plain.rank(right), plain.rank(left))

    def test_grown_rules_lead_to_all_words_as_before(self):
        for rules in ALL_RULES:
            self.assertEqual(grown(rules)[: len(rules)], rules)

    def test_what_is_joined_by_rules_grown_to_the_end_was_joined_before(self):
        words = samples.words_in_order(4)
        for rules in [rules for rules in ALL_RULES[:80] if not are_sure(rules)]:
            more = made.ended(rules)
            if more is not None:
                group_of = plain.groups(rules, words)
                for word in words:
                    self.assertTrue(all(same(more, word, other) for other in group_of[word]), (rules, word))

    def test_one_end_for_each_word_if_nothing_grows(self):
        for rules in ALL_RULES:
            if grown(rules) == rules:
                self.assertEqual(max(len(ends(rules, word)) for word in WORDS), 1, rules)
            else:
                self.assertIs(are_sure(rules), False, rules)


class Leaning(unittest.TestCase):
    """0.2 (e)."""

    def test_lean_rules_have_the_same_ends(self):
        for rules in SURE_RULES:
            told = lean(rules)
            for word in WORDS:
                self.assertEqual(ends(told, word), ends(rules, word), (rules, word))

    def test_lean_rules_are_the_same_whatever_rules_that_follow_are_put_to_the_others(self):
        picker = made.Picker(83)
        for rules in SURE_RULES:
            if rules:
                more = made.that_follow(picker, rules, 4, 6) + made.that_follow(picker, rules, 2, 12)
                self.assertEqual(lean(rules + more), lean(rules), (rules, more))
                self.assertEqual(lean(picker.shuffled(rules + more)), lean(rules), (rules, more))

    def test_all_rules_that_say_the_same_are_the_same_then(self):
        for rules in ALL_RULES[:160]:
            one, other = made.ended(rules), made.ended(tuple(reversed(rules)))
            if one is not None and other is not None:
                self.assertEqual(lean(one), lean(other), rules)


class Asking(unittest.TestCase):
    """0.3."""

    def asked(self, rules, one, other):
        things = [
            places(rules, one),
            nexts(rules, one),
            ends(rules, one),
            end(rules, one),
            clashes(rules),
            doubt(rules),
            are_sure(rules),
            grown(rules),
            written(rules),
        ]
        things += [stepped(rules, one, place, k) for place, k in places(rules, one)]
        if are_sure(rules):
            things += [road(rules, one, other), same(rules, one, other), lean(rules)]
        return things

    def test_the_kinds_and_that_nothing_is_changed_and_the_same_is_told_again(self):
        for rules in ALL_RULES:
            for one, other in (("cbacba", "abcabc"), ("", "a"), ("ccab", "ccab")):
                before = copy.deepcopy(rules)
                told = self.asked(rules, one, other)
                for thing in told:
                    self.assertTrue(kinds.is_told(thing), (rules, thing))
                self.assertEqual(self.asked(rules, one, other), told)
                self.assertEqual(rules, before)

    def test_what_was_asked_before_does_not_matter(self):
        first = [self.asked(rules, "cabcab", "bb") for rules in ALL_RULES]
        last = [self.asked(rules, "cabcab", "bb") for rules in reversed(ALL_RULES)]
        self.assertEqual(first, list(reversed(last)))


if __name__ == "__main__":
    unittest.main()
