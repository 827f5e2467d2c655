"""Roads from word to word by steps forward and back, of sure rules.

road(rules, one, other): a road, None where there is none; same(rules, one, other): whether there is one.
"""

from wordmelt.melting import end, first_next


def road(rules, one, other):
    down = way_to_end(rules, one)
    up = way_to_end(rules, other)
    if down[-1] != up[-1]:
        return None
    # Where both ways go on alike, the road needs only the first word of that.
    while len(down) > 1 and len(up) > 1 and down[-2] == up[-2]:
        down.pop()
        up.pop()
    return tuple(down + list(reversed(up[:-1])))


def same(rules, one, other):
    return end(rules, one) == end(rules, other)


def way_to_end(rules, word):
    way = []
    while word is not None:
        way.append(word)
        word = first_next(rules, word)
    return way
