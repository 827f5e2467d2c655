"""Words in which two rules clash, and whether rules are sure.

clashes(rules): all clashes.
doubt(rules): a word with two unlike ends or more, None where there is none; are_sure(rules): whether there is none.
ends_of_nexts(rules, word): the end of each next word of the word.
"""

from wordmelt.melting import end, nexts
from wordmelt.things import rank


def clashes(rules):
    found = []
    for i, rule in enumerate(rules):
        for j, other in enumerate(rules):
            # A rule does not clash with itself at place 0, but does with another one that is like it.
            found.extend(overlays(rule[0], other[0], 1 if i == j else 0))
    return tuple(sorted(set(found)))


def overlays(left, other, start):
    words = [overlay(left, other, place) for place in range(start, len(left))]
    return [word for word in words if word.startswith(left)]


def overlay(left, other, place):
    return left[:place] + other + left[place + len(other):]


def doubt(rules):
    # Steps whose places do not overlap can be taken in either order, so unlike ends begin in a clash: if in each
    # clash every first step leads to the same end, each word has one end. The least such clash is the least of all
    # words with two ends, so it is within the twelve letters wherever one is.
    for word in sorted(clashes(rules), key=rank):
        if len(ends_of_nexts(rules, word)) > 1:
            return word
    return None


def are_sure(rules):
    return doubt(rules) is None


def ends_of_nexts(rules, word):
    return tuple(sorted(set([end(rules, behind) for behind in nexts(rules, word)])))
