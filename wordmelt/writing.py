"""Rules written as a text: written(rules), with NoRules for what is none."""

from wordmelt.errors import NoRules
from wordmelt.things import are_rules

NO_RULES_MARK = "none"
EMPTY_WORD_MARK = "-"
BETWEEN_RULES = " ; "
BETWEEN_PARTS = " "
MIDDLE_PART = "to"


def written(rules):
    if not are_rules(rules):
        raise NoRules("only rules can be written")
    if len(rules) == 0:
        return NO_RULES_MARK
    return BETWEEN_RULES.join([written_rule(rule) for rule in rules])


def written_rule(rule):
    return BETWEEN_PARTS.join([rule[0], MIDDLE_PART, written_right(rule[1])])


def written_right(word):
    return EMPTY_WORD_MARK if word == "" else word
