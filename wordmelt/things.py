"""Words and rules.

is_word(thing) and are_rules(thing) tell of any thing whether it is a word, or rules.
is_less(one, other) tells whether the first of two words is less than the second; rank(word) is what they are
compared by.
"""

LETTERS = "abc"
MOST_LETTERS = 12
MOST_LEFT_LETTERS = 6
MOST_RULES = 8


def is_word(thing):
    # The length is asked ahead of the letters, so that a long text is not walked.
    return isinstance(thing, str) and len(thing) <= MOST_LETTERS and all([sign in LETTERS for sign in thing])


def are_rules(thing):
    return isinstance(thing, tuple) and len(thing) <= MOST_RULES and all([is_rule(part) for part in thing])


def is_rule(thing):
    if not is_pair_of_words(thing):
        return False
    left = thing[0]
    right = thing[1]
    return 1 <= len(left) <= MOST_LEFT_LETTERS and is_less(right, left)


def is_pair_of_words(thing):
    return isinstance(thing, tuple) and len(thing) == 2 and all([is_word(part) for part in thing])


def is_less(one, other):
    return rank(one) < rank(other)


def rank(word):
    return (len(word), word)
