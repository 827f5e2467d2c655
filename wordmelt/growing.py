"""Rules grown and lean.

grown(rules): the rules, and behind them a rule for each clash that leads to unlike ends.
lean(rules), of sure rules: rules with the same ends, the same for all rules that say the same.
"""

from wordmelt.clashes import clashes, ends_of_nexts
from wordmelt.melting import end
from wordmelt.things import rank


def grown(rules):
    found = [ends_of_nexts(rules, word) for word in clashes(rules)]
    added = [(max(words, key=rank), min(words, key=rank)) for words in found if len(words) > 1]
    return rules + tuple(sorted(set(added)))


def lean(rules):
    # Of sure rules, those with the same left have the same right once it is an end, so any of them may stay.
    right_of = {}
    for rule in rules:
        if not holds_another(rule[0], rules):
            right_of[rule[0]] = end(rules, rule[1])
    return tuple([(left, right_of[left]) for left in sorted(right_of)])


def holds_another(left, rules):
    return any([rule[0] != left and rule[0] in left for rule in rules])
