"""What may be empty ahead of each act: leaves of owners, and holders."""

from lendrule.acts import ACT, NAME, TAKER, THROUGH, acts, come_to, nexts, touched, touches
from lendrule.forms import is_holder
from lendrule.shapes import leaves
from lendrule.spread import spread


def empties(program, at):
    listed = acts(program, at)
    follow = nexts(program, at)
    firsts = empty_at_first(program[at])
    for n in come_to(program, at):
        firsts.extend(emptied(listed[n], follow[n]))
    return spread(firsts, lambda fact: stays_empty(listed[fact[0]], follow[fact[0]], fact))


def empty_at_first(function):
    told = []
    for name, kind in function[3]:
        many = 1 if is_holder(kind) else len(leaves(kind))
        told.extend([(0, name, leaf) for leaf in range(many)])
    return told


def emptied(act, behind):
    if act[ACT] != "empty":
        return []
    told = []
    for n in behind:
        told.extend([(n, act[NAME], leaf) for leaf in touched(act)])
    return told


def stays_empty(act, behind, fact):
    if act[TAKER] == fact[1] or fills(act, fact[1], fact[2]):
        return []
    return [(n, fact[1], fact[2]) for n in behind]


def fills(act, name, leaf):
    return act[ACT] == "fill" and not act[THROUGH] and touches(act, name, leaf)
