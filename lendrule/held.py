"""Held: on which lendings the leaves of holders may stand ahead of each act."""

from lendrule.acts import FIRST, NAME, ROW, TAKER, THROUGH
from lendrule.acts import acts, come_to, is_lending, is_of_call, nexts, touched, touches
from lendrule.forms import is_holder, kind_of, shape_of
from lendrule.shapes import leaves
from lendrule.spread import spread


def held(program, at):
    course = Course(program, at)
    firsts = held_at_first(program[at])
    for n in come_to(program, at):
        firsts.extend(newly_lent(course, n))
    return spread(firsts, lambda fact: held_behind(course, fact))


class Course:

    def __init__(self, program, at):
        self.function = program[at]
        self.listed = acts(program, at)
        self.follow = nexts(program, at)
        # For each row the call's own holders from which its take may come.
        self.sources = [source_holders(program, row) for row in program[at][4]]


def source_holders(program, row):
    if row[0] != "call":
        return []
    called = [function for function in program if function[0] == row[2]][0]
    if called[2] is None or not is_holder(called[2]):
        return []
    return [str(i) for i, param in enumerate(called[1]) if param[0] in called[2][2]]


def count_leaves_of(function, name):
    return len(leaves(shape_of(kind_of(function, name))))


# The first facts


def held_at_first(function):
    told = []
    for i, param in enumerate(function[1]):
        if is_holder(param[1]):
            many = count_leaves_of(function, param[0])
            told.extend([(0, param[0], leaf, -1 - i, leaf) for leaf in range(many)])
    return told


def newly_lent(course, n):
    act = course.listed[n]
    # A holder lent on to itself stands on what it stood on, not on itself.
    if not is_lending(act) or is_through(course, n, act[TAKER]):
        return []
    told = []
    for behind in course.follow[n]:
        told.extend([(behind, act[TAKER], j, n, spot) for j, spot in enumerate(touched(act))])
    return told


# The lendings of params, below 0, are through none of the function's holders.
def is_through(course, lending, name):
    return lending >= 0 and course.listed[lending][THROUGH] and course.listed[lending][NAME] == name


# What comes of a fact


def held_behind(course, fact):
    act = course.listed[fact[0]]
    stands = []
    if fact[1] != act[TAKER] and not is_through(course, fact[3], act[TAKER]):
        stands.append(fact[1:])
    stands.extend(passed_on(course, act, fact))
    told = []
    for n in course.follow[fact[0]]:
        same_row = course.listed[n][ROW] == act[ROW]
        told.extend([(n,) + one for one in stands if same_row or not is_of_call(one[0])])
    return told


def passed_on(course, act, fact):
    if act[TAKER] == "" or is_through(course, fact[3], act[TAKER]):
        return []
    return [(act[TAKER], leaf) + fact[3:] for leaf in leaves_given(course, act, fact)]


# The taker's leaves that come to stand where the fact's leaf stands.
def leaves_given(course, act, fact):
    if is_lending(act):
        return [fact[2] - act[FIRST]] if act[THROUGH] and touches(act, fact[1], fact[2]) else []
    if fact[1] not in course.sources[act[ROW]]:
        return []
    return list(range(count_leaves_of(course.function, act[TAKER])))
