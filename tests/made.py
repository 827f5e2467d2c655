"""Rules and words that the tests make themselves, the same ones at each run."""

import functools

from tests import plain, samples
from wordmelt.growing import grown


class Picker:
    """Picks one thing after another, in a row that looks disorderly and is always the same."""

    def __init__(self, seed):
        self.state = seed

    def below(self, number):
        self.state = (self.state * 6364136223846793005 + 1442695040888963407) % 2**64
        return (self.state >> 33) % number

    def word(self, least, most):
        return "".join("abc"[self.below(3)] for _ in range(least + self.below(most - least + 1)))

    def rule(self, most_letters):
        while True:
            one, other = self.word(0, most_letters), self.word(0, most_letters)
            if one != other:
                return (max(one, other, key=plain.rank), min(one, other, key=plain.rank))

    def rules(self, most_rules, most_letters):
        return tuple(self.rule(most_letters) for _ in range(self.below(most_rules + 1)))

    def shuffled(self, things):
        things = list(things)
        return tuple(things.pop(self.below(len(things))) for _ in range(len(things)))


def all_rules(most_letters):
    """Each rule whose left has so many letters at most."""
    words = samples.words_in_order(most_letters)
    return [(left, right) for place, left in enumerate(words) for right in words[:place]]


def many_rules():
    """Rules of many kinds: all of one rule, some of two, and some of several."""
    short = all_rules(2)
    pairs = [(one, other) for one in short for other in short]
    picker = Picker(11)
    return (
        [()]
        + [(rule,) for rule in short]
        + pairs[:: len(pairs) // 150]
        + [picker.rules(8, 3) for _ in range(80)]
        + [picker.rules(8, 6) for _ in range(40)]
        + list(SURE.values())
        + list(UNSURE.values())
    )


@functools.cache
def ended(rules):
    """The rules grown until nothing grows, None if that takes too long."""
    for _ in range(5):
        more = grown(rules)
        if more == rules:
            return rules
        if len(more) > 25:
            return None
        rules = more
    return None


def that_follow(picker, rules, number, most_letters):
    """Rules that say nothing new of sure rules: each right can be reached by a road from its left."""
    found = []
    while len(found) < number:
        left = picker.word(1, most_letters)
        behind = sorted(plain.nexts(rules, left) | {plain.first_end(rules, left)})
        right = behind[picker.below(len(behind))]
        if right != left:
            found.append((left, right))
    return tuple(found)


# That they are sure, or not, is told by hand and tried by the tests of clashes.
SURE = {
    "no rules": (),
    "one rule without a clash": (("ab", "b"),),
    "a right that is no end": (("c", "b"), ("b", "a")),
    "letters go": (("a", ""), ("b", ""), ("c", "")),
    "letters in order": (("ba", "ab"), ("cb", "bc"), ("ca", "ac")),
    "a left that overlaps with itself": (("aa", ""),),
    "a left that overlaps with itself at two lengths": (("aaa", "aa"),),
    "lefts that overlap at one letter": (("ab", ""), ("ba", "")),
    "lefts that overlap at one letter, in many ways": (("aa", ""), ("bb", ""), ("bab", "aba")),
    "lefts that overlap at several letters": (("abc", ""), ("bca", "")),
    "lefts that overlap in every way": (("abc", "a"), ("bca", "a"), ("aa", "a"), ("aca", "a"), ("abca", "a")),
    "a left inside another one": (("abc", "ac"), ("b", "")),
    "a left inside another one at place 0": (("abc", "bc"), ("a", "")),
    "a left at the end of another one": (("abc", "ab"), ("c", "")),
    "the same left, and rights with one end": (("c", "b"), ("c", "a"), ("b", "a")),
    "the same rule twice": (("ba", "ab"), ("ba", "ab")),
    "the same rule twice, overlapping with itself": (("cc", "c"), ("cc", "c")),
    "a left of 6 letters": (("cccccc", ""), ("b", "a")),
}

UNSURE = {
    "the same left, and rights with unlike ends": (("c", "b"), ("c", "a")),
    "the same left, and one right that is empty": (("b", ""), ("b", "a")),
    "a left that overlaps with itself": (("aba", "b"),),
    "a left that overlaps with itself at two letters": (("abab", "c"),),
    "a left that overlaps with itself at two lengths": (("aabaa", "b"),),
    "lefts that overlap at one letter": (("ab", ""), ("bc", "")),
    "lefts that overlap at several letters": (("abc", "b"), ("bca", "")),
    "lefts that overlap at more than one length": (("aab", "b"), ("abaa", "a")),
    "a left inside another one": (("abc", ""), ("b", "")),
    "a left inside another one at place 0": (("abc", ""), ("a", "")),
    "a left at the end of another one": (("abc", ""), ("c", "")),
    "three rules of which two clash": (("ba", "ab"), ("cb", "b"), ("ca", "")),
    "the same rule twice, and another one": (("ab", ""), ("ab", ""), ("bb", "c")),
    "lefts of 6 letters": (("aaaaac", ""), ("cbbbbb", "")),
}
