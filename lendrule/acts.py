"""Acts: what the rows of a function do to boxes and holders, and how acts follow one another."""

from lendrule.forms import is_holder, kind_of, shape_of
from lendrule.shapes import first, is_copied, leaves, part
from lendrule.spread import spread

# The places in an act's tuple.
ROW = 0
ACT = 1
NAME = 2
THROUGH = 3
FIRST = 4
MANY = 5
TAKER = 6

REST = ("rest", "", False, 0, 0, "")
HAND = ("hand", "", False, 0, 0, "")
WRITING = ("fill", "turn", "empty", "sole")
ASKING = ("read", "turn", "empty", "lend", "sole", "give")
LENDING = ("lend", "sole")


def row_nexts(rows, k):
    row = rows[k]
    if row[0] == "give":
        return ()
    if row[0] == "go":
        return (row[1],)
    if row[0] == "if":
        return tuple(sorted(set([k + 1, row[3]])))
    return (k + 1,)


def acts(program, at):
    function = program[at]
    told = []
    for k, row in enumerate(function[4]):
        made = MAKERS[row[0]](function, row)
        told.extend([(k,) + one for one in made or [REST]])
    return told


def nexts(program, at):
    listed = acts(program, at)
    firsts = {}
    for n, act in enumerate(listed):
        firsts.setdefault(act[ROW], n)
    told = []
    for n, act in enumerate(listed):
        if n + 1 < len(listed) and listed[n + 1][ROW] == act[ROW]:
            told.append((n + 1,))
        else:
            told.append(tuple([firsts[k] for k in row_nexts(program[at][4], act[ROW])]))
    return told


def come_to(program, at):
    return sorted([fact[0] for fact in arrivals(nexts(program, at))])


# Facts (act,), of the acts that are come to: followed back, they are the shortest ways.
def arrivals(follow):
    return spread([(0,)], lambda fact: [(n,) for n in follow[fact[0]]])


# What an act is


def touched(act):
    return list(range(act[FIRST], act[FIRST] + act[MANY]))


def touches(act, name, leaf):
    return act[NAME] == name and act[FIRST] <= leaf < act[FIRST] + act[MANY]


def writes(act):
    return act[ACT] in WRITING


def asks_for_full(act):
    return act[ACT] in ASKING


def is_lending(act):
    return act[ACT] in LENDING


# The holder that a call makes of an arg: its name is a number, as no name of a function is.
def is_of_call(name):
    return name.isdigit()


# The acts of each row, still without the row's number


def touch(function, word, spot, taker):
    shape = shape_of(kind_of(function, spot[0]))
    many = len(leaves(part(shape, spot[2])))
    return (word, spot[0], spot[1], first(shape, spot[2]), many, taker)


def touch_whole(function, word, name, taker):
    return touch(function, word, (name, is_holder(kind_of(function, name)), (), None), taker)


def at_acts(function, spot):
    if not isinstance(spot[3], str):
        return []
    return [touch_whole(function, "read", spot[3], "")]


def operand_acts(function, operand):
    if not isinstance(operand, tuple):
        return []
    return at_acts(function, operand) + [touch(function, "read", operand, "")]


# One place of a strip is turned, not filled: the other places stay as they are.
def target_acts(function, spot):
    if spot[3] is None:
        return [touch(function, "fill", spot, "")]
    return at_acts(function, spot) + [touch(function, "turn", spot, "")]


def put_acts(function, row):
    return operand_acts(function, row[2]) + target_acts(function, row[1])


def set_acts(function, row):
    return operand_acts(function, row[3]) + operand_acts(function, row[4]) + target_acts(function, row[1])


def copy_acts(function, row):
    return [touch(function, "read", row[2], ""), touch(function, "fill", row[1], "")]


def move_acts(function, row):
    return [touch(function, "empty", row[2], ""), touch(function, "fill", row[1], "")]


def drop_acts(function, row):
    return [touch(function, "empty", row[1], "")]


def lend_acts(function, row):
    return [touch(function, row[0], row[2], row[1])]


def call_acts(function, row):
    told = [arg_act(function, name, str(j)) for j, name in enumerate(row[3])]
    told.append(HAND)
    if row[1] == "":
        return told
    if is_holder(kind_of(function, row[1])):
        return told + [("take", "", False, 0, 0, row[1])]
    return told + [touch_whole(function, "fill", row[1], "")]


def arg_act(function, name, taker):
    kind = kind_of(function, name)
    if not is_holder(kind):
        return owner_act(function, name)
    return touch_whole(function, "lend" if kind[0] == "lent" else "sole", name, taker)


# What can't be copied leaves its owner.
def owner_act(function, name):
    return touch_whole(function, "read" if is_copied(kind_of(function, name)) else "empty", name, "")


def if_acts(function, row):
    return operand_acts(function, row[1]) + operand_acts(function, row[2])


def go_acts(function, row):
    return []


def say_acts(function, row):
    return operand_acts(function, row[1])


def give_acts(function, row):
    if row[1] == "":
        return []
    if is_holder(kind_of(function, row[1])):
        return [touch_whole(function, "give", row[1], "")]
    return [owner_act(function, row[1])]


MAKERS = {
    "put": put_acts, "set": set_acts, "fill": put_acts, "copy": copy_acts, "move": move_acts,
    "drop": drop_acts, "lend": lend_acts, "sole": lend_acts, "call": call_acts, "if": if_acts,
    "go": go_acts, "say": say_acts, "give": give_acts,
}
