"""Which leaves of holders are needed ahead of each act."""

from lendrule.acts import ACT, MANY, NAME, ROW, TAKER, THROUGH, acts, is_lending, nexts, touched
from lendrule.spread import spread


def needs(program, at):
    listed = acts(program, at)
    ahead = acts_ahead(nexts(program, at))
    firsts = []
    for n, act in enumerate(listed):
        firsts.extend([(n, name, leaf) for name, leaf in needed_by(listed, act)])
    return spread(firsts, lambda fact: needed_ahead(listed, ahead[fact[0]], fact))


def acts_ahead(follow):
    told = [[] for behind in follow]
    for n, behind in enumerate(follow):
        for other in behind:
            told[other].append(n)
    return told


def needed_by(listed, act):
    if act[ACT] == "hand":
        return handed(listed, act[ROW])
    if not act[THROUGH]:
        return []
    return [(act[NAME], leaf) for leaf in touched(act)]


def handed(listed, row):
    told = []
    for act in listed:
        if act[ROW] == row and is_lending(act):
            told.extend([(act[TAKER], leaf) for leaf in range(act[MANY])])
    return told


def needed_ahead(listed, ahead, fact):
    return [(n, fact[1], fact[2]) for n in ahead if listed[n][TAKER] != fact[1]]
