"""Claims: what the looker claims against a function, each with a way along which it comes true."""

from lendrule.acts import ACT, NAME, ROW, TAKER, THROUGH
from lendrule.acts import acts, arrivals, asks_for_full, nexts, touches, writes
from lendrule.empties import emptied, empties, empty_at_first
from lendrule.held import held
from lendrule.needs import needs
from lendrule.spread import numbers_of, steps_back
from lendrule.ways import way_along


def claims(program, at):
    look = Look(program, at)
    told = {}
    for k, fact in enumerate(look.empty):
        if is_asked_for(look, fact):
            told[("empty",) + fact[:3] + (None,)] = way_of_empty(look, k)
    for k, fact in enumerate(look.stands):
        kind = kind_of_claim(look, fact)
        # Several spots of one lending make one claim.
        if kind != "" and (kind,) + fact[:4] not in told:
            told[(kind,) + fact[:4]] = way_of_lending(look, k, kind)
    return sorted([claim + told[claim] for claim in told], key=order_of_claim)


def order_of_claim(claim):
    return (claim[1], claim[0]) + claim[2:5]


def is_let_by(program):
    return refusals(program) == []


def refusals(program):
    told = []
    for at in range(len(program)):
        told.extend([(at, claim) for claim in claims(program, at)])
    return told


# What is known of a function ahead of its claims.
class Look:

    def __init__(self, program, at):
        self.function = program[at]
        self.listed = acts(program, at)
        self.follow = nexts(program, at)
        self.reached = arrivals(self.follow)
        self.empty = empties(program, at)
        self.needed = needs(program, at)
        self.needed_at = numbers_of(self.needed)
        self.stands = held(program, at)


# Which facts are claims


def is_asked_for(look, fact):
    act = look.listed[fact[0]]
    if act[THROUGH]:
        return act[NAME] == fact[1]
    return asks_for_full(act) and touches(act, fact[1], fact[2])


def kind_of_claim(look, fact):
    act = look.listed[fact[0]]
    if act[ACT] == "give":
        return kind_at_give(look, act, fact)
    return "met" if fact[3] >= 0 and is_met(look, act, fact) else ""


def kind_at_give(look, act, fact):
    if act[NAME] != fact[1]:
        return ""
    if fact[3] >= 0:
        return "" if look.listed[fact[3]][THROUGH] else "leaves"
    return "" if look.function[1][-1 - fact[3]][0] in look.function[2][2] else "face"


def is_met(look, act, fact):
    lending = look.listed[fact[3]]
    # The name alone tells whether both are through it: a holder's leaves are touched in no other way.
    if not touches(act, lending[NAME], fact[4]):
        return False
    return (writes(act) or lending[ACT] == "sole") and is_needed_behind(look, act, fact)


def is_needed_behind(look, act, fact):
    return act[TAKER] != fact[1] and needed_next(look, fact) != []


def needed_next(look, fact):
    return [n for n in look.follow[fact[0]] if (n,) + fact[1:3] in look.needed_at]


# Ways, by acts: the lead to the beginning, the steps on from it to the claim's act, the rest behind it


def way_of_empty(look, k):
    facts = steps_back(look.empty, k)
    return told_way(look, lead_to_empty(look, facts[-1][:-1]), acts_onward(facts), [])


def lead_to_empty(look, fact):
    if fact in empty_at_first(look.function):
        return []
    emptying = [step[0] for step in look.reached if fact in emptied(look.listed[step[0]], look.follow[step[0]])]
    return way_along(look.reached, emptying[0])


def way_of_lending(look, k, kind):
    fact = look.stands[k]
    lead = way_along(look.reached, fact[3]) if fact[3] >= 0 else []
    rest = way_of_need(look, fact) if kind == "met" else []
    return told_way(look, lead, acts_onward(steps_back(look.stands, k)), rest)


# Needs come from what is behind: followed back, they lead onward.
def way_of_need(look, fact):
    need = (needed_next(look, fact)[0],) + fact[1:3]
    return [step[0] for step in steps_back(look.needed, look.needed_at[need])]


def acts_onward(facts):
    return [fact[0] for fact in reversed(facts)]


def told_way(look, lead, onward, rest):
    rows = []
    places = []
    for n in lead + onward + rest:
        if is_first_of_row(look.listed, n):
            rows.append(look.listed[n][ROW])
        places.append(len(rows) - 1)
    begin = places[len(lead) - 1] if lead else 0
    return (begin, places[len(lead + onward) - 1], tuple(rows))


def is_first_of_row(listed, n):
    return n == 0 or listed[n - 1][ROW] != listed[n][ROW]
