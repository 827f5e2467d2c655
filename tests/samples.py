"""Things that several tests ask about, each under the name of what is special in it."""

import itertools


def in_lists(thing, depth):
    for _ in range(depth):
        thing = [thing]
    return thing


def in_tuples(thing, depth):
    for _ in range(depth):
        thing = (thing,)
    return thing


def words_in_order(most_letters):
    """All words of so many letters at most, each less than those behind it."""
    return [
        "".join(signs)
        for length in range(most_letters + 1)
        for signs in itertools.product("abc", repeat=length)
    ]


EIGHT_RULES = tuple((left, "") for left in ("a", "b", "c", "ab", "bc", "ca", "abc", "cba"))
NINE_RULES = EIGHT_RULES + (("cab", ""),)

# Each with its writing.
RULES = {
    "no rules": ((), "none"),
    "one rule": ((("ab", "b"),), "ab to b"),
    "an empty right": ((("a", ""),), "a to -"),
    "two rules": ((("ba", "ab"), ("cc", "c")), "ba to ab ; cc to c"),
    "empty right ahead of another rule": ((("aa", ""), ("b", "a")), "aa to - ; b to a"),
    "three rules, the middle one with an empty right": (
        (("c", "b"), ("abc", ""), ("bb", "ba")),
        "c to b ; abc to - ; bb to ba",
    ),
    "the same rule twice": ((("b", "a"), ("b", "a")), "b to a ; b to a"),
    "the same left twice": ((("c", "b"), ("c", "a")), "c to b ; c to a"),
    "a left of 6 letters": ((("cccccc", "cccccb"),), "cccccc to cccccb"),
    "8 rules": (
        EIGHT_RULES,
        "a to - ; b to - ; c to - ; ab to - ; bc to - ; ca to - ; abc to - ; cba to -",
    ),
}

NO_TEXTS = {
    "0": 0,
    "1": 1,
    "-1": -1,
    "12": 12,
    "a huge whole number": 10**40,
    "True": True,
    "False": False,
    "None": None,
    "an empty list": [],
    "an empty tuple": (),
    "a list of a word": ["a"],
    "a list of letters": ["a", "b", "c"],
    "a tuple of a word": ("a",),
    "a tuple of letters": ("a", "b", "c"),
    "a list of many kinds": [0, True, None, "a", [], ()],
    "lists 30 deep": in_lists("a", 30),
    "tuples 30 deep": in_tuples("a", 30),
    "lists 35 deep around nothing": in_lists([], 35),
    "tuples 35 deep around nothing": in_tuples((), 35),
    "lists in tuples, 30 deep": in_tuples(in_lists("a", 15), 15),
}

NO_WORDS = {
    "13 letters": "a" * 13,
    "14 letters": "abcabcabcabcab",
    "a very long text": "abc" * 1000,
    "the letter d": "d",
    "a d at the end": "abcd",
    "a d at the start": "dabc",
    "a d in the middle": "abdc",
    "the sign ahead of a": "`",
    "a capital": "A",
    "capitals": "ABC",
    "a capital in a word": "aBc",
    "a digit": "1",
    "a blank": " ",
    "a blank ahead": " a",
    "a blank behind": "a ",
    "a blank in a word": "a b",
    "a tab": "\t",
    "a tab behind": "a\t",
    "a row's end": "\n",
    "a row's end behind": "abc\n",
    "a row's end ahead": "\nabc",
    "a row's end behind 12 letters": "a" * 12 + "\n",
    "the mark of the empty word": "-",
    "the mark of no rules": "none",
    "a tilde": "~",
    **NO_TEXTS,
}

NO_RULES = {
    "0": 0,
    "1": 1,
    "8": 8,
    "True": True,
    "False": False,
    "None": None,
    "an empty text": "",
    "a word": "ab",
    "the writing of no rules": "none",
    "the writing of a rule": "ab to b",
    "an empty list": [],
    "a list of a rule": [("ab", "b")],
    "a list of 8 rules": list(EIGHT_RULES),
    "a list as a pair": (["ab", "b"],),
    "a list as the second pair": (("ab", "b"), ["a", ""]),
    "lists outside and inside": [["ab", "b"]],
    "a pair outside rules": ("ab", "b"),
    "a text as a pair": ("ba",),
    "rules in rules": ((("ab", "b"),),),
    "9 rules": NINE_RULES,
    "10 rules": NINE_RULES + (("bac", ""),),
    "9 times the same rule": (("a", ""),) * 9,
    "a pair of no part": ((),),
    "a pair of one part": (("ab",),),
    "a pair of three parts": (("ab", "b", "a"),),
    "a pair of three parts, the last one empty": (("ab", "b", ""),),
    "a left of 0 letters": (("", ""),),
    "a left of 0 letters, and a right": (("", "a"),),
    "a left of 7 letters": (("aaaaaaa", ""),),
    "a left of 7 letters, and a right of 6": (("ccccccc", "cccccc"),),
    "a left of 12 letters": (("c" * 12, "a"),),
    "a left of 13 letters": (("c" * 13, "a"),),
    "a right like its left": (("ab", "ab"),),
    "a right of as many letters that comes later": (("ab", "ba"),),
    "a right that is longer": (("c", "aa"),),
    "a right that is longer and comes first in the order of texts": (("b", "ab"),),
    "a right that its left begins": (("a", "ab"),),
    "a right of 7 letters": (("cccccc", "aaaaaaa"),),
    "a wrong rule at the end": (("ab", "b"), ("a", "a")),
    "a wrong rule at the start": (("a", "a"), ("ab", "b")),
    "a wrong rule among eight": EIGHT_RULES[:4] + (("a", "b"),) + EIGHT_RULES[5:],
    "a whole number as a pair": (0,),
    "None as a pair": (None,),
    "True as a pair": (True,),
    "None behind a rule": (("ab", "b"), None),
    "lists 30 deep": in_lists(("ab", "b"), 30),
    "tuples 30 deep": in_tuples(("ab", "b"), 30),
    "tuples 35 deep around nothing": in_tuples((), 35),
    "lists in tuples, 30 deep": in_tuples(in_lists("ab", 15), 15),
}
# The left is the greatest there is, so that a right fails by its own fault wherever it can.
NO_RULES.update({f"right is {name}": (("cccccc", thing),) for name, thing in NO_WORDS.items()})
NO_RULES.update({f"left is {name}": ((thing, ""),) for name, thing in NO_WORDS.items()})
