"""Rules read from a text: read(text), with NoText for a text that is not the writing of rules."""

from wordmelt.errors import NoText
from wordmelt.things import are_rules
from wordmelt.writing import BETWEEN_PARTS, BETWEEN_RULES, EMPTY_WORD_MARK, NO_RULES_MARK, written


def read(text):
    rules = guessed_rules(text)
    # The guess is loose; that its writing is the text, sign by sign, is what refuses all that is only nearly right.
    if not are_rules(rules) or written(rules) != text:
        raise NoText("the text is not the writing of rules")
    return rules


def guessed_rules(text):
    if text == NO_RULES_MARK:
        return ()
    return tuple([guessed_rule(part) for part in text.split(BETWEEN_RULES)])


def guessed_rule(text):
    parts = text.split(BETWEEN_PARTS)
    return (parts[0], guessed_right(parts[-1]))


def guessed_right(text):
    return "" if text == EMPTY_WORD_MARK else text
