"""The least facts that rules ask, each once, and told with the fact that it came from.

A fact is a tuple. It is told with one number more, came: the number of the fact told earlier from which it
comes, or -1 for one of the first facts.
"""


# Facts are followed in the order in which they are told: so each one is come to by as few steps as can be.
def spread(firsts, outcomes):
    told = []
    known = {}
    tell_new(told, known, firsts, -1)
    k = 0
    while k < len(told):
        tell_new(told, known, outcomes(told[k][:-1]), k)
        k += 1
    return told


def tell_new(told, known, facts, came):
    for fact in facts:
        if fact not in known:
            known[fact] = True
            told.append(fact + (came,))


def steps_back(told, k):
    steps = []
    here = k
    while here >= 0:
        steps.append(told[here])
        here = told[here][-1]
    return steps


def numbers_of(told):
    return dict([(fact[:-1], k) for k, fact in enumerate(told)])
