"""What the document says of melting, clashes and roads, told the long way and without the program."""


def rank(word):
    return (len(word), word)


def stands(left, word, place):
    return place >= 0 and word[place : place + len(left)] == left


def places(rules, word):
    return [
        (place, k)
        for place in range(len(word) + 1)
        for k, (left, _) in enumerate(rules)
        if stands(left, word, place)
    ]


def step(rules, word, place, k):
    left, right = rules[k]
    return "".join([word[:place], right, word[place + len(left) :]])


def nexts(rules, word):
    return {step(rules, word, place, k) for place, k in places(rules, word)}


def ends(rules, word, known=None):
    """All ends, by all ways one by one; what is known of words from earlier on is kept in `known`."""
    known = {} if known is None else known
    if word not in known:
        behind = nexts(rules, word)
        known[word] = frozenset().union(*[ends(rules, one, known) for one in behind]) if behind else {word}
    return known[word]


def first_end(rules, word):
    found = places(rules, word)
    while found:
        word = step(rules, word, *min(found))
        found = places(rules, word)
    return word


def is_clash(rules, word):
    """The words of the document, as they stand."""
    return any(
        stands(rules[i][0], word, 0)
        and stands(rules[j][0], word, place)
        and (i != j or place != 0)
        and len(word) <= max(len(rules[i][0]), place + len(rules[j][0]))
        for i in range(len(rules))
        for j in range(len(rules))
        for place in range(len(rules[i][0]))
    )


def is_road(rules, words):
    return len(words) > 0 and all(
        after in nexts(rules, before) or before in nexts(rules, after) for before, after in zip(words, words[1:])
    )


def groups(rules, words):
    """The words by groups: two are in the same one if a road of these words leads from one to the other."""
    group_of = {word: {word} for word in words}
    for word in words:
        for other in nexts(rules, word):
            if other in group_of and group_of[other] is not group_of[word]:
                joined = group_of[word] | group_of[other]
                for member in joined:
                    group_of[member] = joined
    return group_of
