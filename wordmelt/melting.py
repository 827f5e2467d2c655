"""Words melted by rules, step by step.

places(rules, word): all pairs (place, k) such that rule k stands in the word at this place.
stepped(rules, word, place, k): the word behind the step, with NoStep where there is no such step.
nexts(rules, word): all words to which one step leads.
ends(rules, word): all ends of the word; end(rules, word): the one that comes by the first place at each step.
first_next(rules, word): the word behind the step at the first place, None where no rule stands.
"""

from wordmelt.errors import NoStep


def places(rules, word):
    found = []
    for k, rule in enumerate(rules):
        found.extend([(place, k) for place in places_of(rule[0], word)])
    return tuple(sorted(found))


def places_of(left, word):
    found = []
    place = word.find(left)
    while place >= 0:
        found.append(place)
        # One letter on, not a whole left on, since places may overlap.
        place = word.find(left, place + 1)
    return found


def stepped(rules, word, place, k):
    # Python counts what is below 0 from the end, so this is asked ahead of the rest.
    if place < 0 or k < 0:
        raise NoStep("a place or a number is below 0")
    if k >= len(rules):
        raise NoStep("there is no rule of this number")
    if not word.startswith(rules[k][0], place):
        raise NoStep("the rule does not stand at this place")
    return put_right(rules[k], word, place)


def put_right(rule, word, place):
    return word[:place] + rule[1] + word[place + len(rule[0]):]


def nexts(rules, word):
    return tuple(sorted(set([put_right(rules[k], word, place) for place, k in places(rules, word)])))


def ends(rules, word):
    # Many ways may lead to one word, so what is behind a word is asked once.
    is_end = {}
    waiting = [word]
    while len(waiting) > 0:
        reached = waiting.pop()
        if reached not in is_end:
            behind = nexts(rules, reached)
            is_end[reached] = len(behind) == 0
            waiting.extend(behind)
    return tuple(sorted([reached for reached in is_end if is_end[reached]]))


def end(rules, word):
    behind = first_next(rules, word)
    while behind is not None:
        word = behind
        behind = first_next(rules, word)
    return word


def first_next(rules, word):
    # The first of places is found without the others, since a melting may take very many steps.
    found = [(word.find(rule[0]), k) for k, rule in enumerate(rules)]
    first = min([pair for pair in found if pair[0] >= 0], default=None)
    return None if first is None else put_right(rules[first[1]], word, first[0])
