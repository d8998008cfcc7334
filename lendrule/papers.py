"""Papers: turnings of a program by rules, what stands against each, and what comes of it."""

from lendrule.acts import row_nexts
from lendrule.errors import Against
from lendrule.forms import kind_of
from lendrule.rows import changes, names_in, names_of_spot, operands


def against(program, paper):
    case = Case(program, paper)
    if not is_of_form(case):
        return [("form", case.i)]
    told = []
    for reason in REASONS[case.rule]:
        stands = STANDS[reason]
        told.extend([(reason, k) for k in range(len(case.rows)) if stands(case, k)])
    return sorted(told)


def turned(program, paper):
    found = against(program, paper)
    if found != []:
        raise Against(found[0][0], found[0][1])
    case = Case(program, paper)
    rows = list(case.rows)
    for k, row in TURNS[case.rule](case):
        rows[k] = row
    function = case.function[:4] + (tuple(rows),)
    return program[:paper[1]] + (function,) + program[paper[1] + 1:]


class Case:

    def __init__(self, program, paper):
        self.rule = paper[0]
        self.function = program[paper[1]]
        self.rows = self.function[4]
        self.i = paper[2]
        self.j = paper[3]


# What is asked of rows i and j


def is_of_form(case):
    if case.i >= len(case.rows) or case.j >= len(case.rows):
        return False
    return FORMS[case.rule](case, case.rows[case.i], case.rows[case.j])


# A num has no parts and no places: a spot of such an owner is its whole spot.
def is_num_owner(case, spot):
    return kind_of(case.function, spot[0]) == ("num",)


def is_plain(case, operand):
    return not isinstance(operand, tuple) or is_num_owner(case, operand)


# A place that a name tells may be another one the next time.
def is_held(thing):
    return isinstance(thing, tuple) and thing[1] and not isinstance(thing[3], str)


def is_load(case, row):
    return row[0] == "put" and is_num_owner(case, row[1]) and is_held(row[2])


def is_store(case, row):
    return row[0] == "put" and is_held(row[1]) and is_plain(case, row[2])


def puts_number(row):
    return row[0] in ("put", "set")


def is_again(case, row, later):
    return case.i < case.j and is_load(case, row) and later[0] == "put" and later[2] == row[2]


def is_known(case, row, later):
    return case.i < case.j and is_store(case, row) and later[0] == "put" and later[2] == row[1]


def is_over(case, row, later):
    if case.i >= case.j or not puts_number(row) or not puts_number(later):
        return False
    if not is_held(row[1]) or row[1] != later[1]:
        return False
    return not any([row[1][0] in names_of_spot(operand) for operand in operands(later)])


def is_back(case, row, later):
    return case.i < case.j and is_load(case, row) and later == ("put", row[2], row[1])


def is_unread(case, row, later):
    return case.i == case.j and puts_number(row) and is_num_owner(case, row[1])


def is_past(case, row, later):
    if case.i + 2 > case.j or not (is_load(case, row) or is_store(case, row)):
        return False
    if case.rows[case.i + 1][0] in ("if", "go", "give"):
        return False
    return later[0] == "put" and spot_of(case) in later[1:]


# What a paper speaks of: the spot S through r, and the owner that is a or A


def spot_of(case):
    row = case.rows[case.i]
    return row[1] if is_held(row[1]) else row[2]


def holder_of(case):
    return spot_of(case)[0]


# None where A is a number.
def owner_of(case):
    row = case.rows[case.i]
    thing = row[2] if is_held(row[1]) else row[1]
    return thing[0] if isinstance(thing, tuple) else None


# What stands against a paper


def is_between(case, k):
    return case.i < k < case.j


def stands_by_way(case, k):
    behind = row_nexts(case.rows, k)
    if case.i <= k < case.j and behind != (k + 1,):
        return True
    return any([case.i < n <= case.j and n != k + 1 for n in behind])


def stands_named(case, k):
    holder = holder_of(case)
    if not is_between(case, k):
        return False
    if kind_of(case.function, holder)[0] == "sole":
        return holder in names_in(case.rows[k])
    return case.rows[k][0] in ("lend", "call") and case.rows[k][1] == holder


def stands_changed(case, k):
    if case.rule != "past":
        return is_between(case, k) and changes(case.rows[k], owner_of(case))
    if k != case.i + 1:
        return False
    # A row that reads a would read it too early.
    if is_load(case, case.rows[case.i]):
        return owner_of(case) in names_in(case.rows[k])
    return changes(case.rows[k], owner_of(case))


def stands_lent(case, k):
    return case.rows[k][0] in ("lend", "sole") and case.rows[k][2][0] == owner_of(case)


def stands_read(case, k):
    row = case.rows[k]
    owner = case.rows[case.i][1]
    if puts_number(row) and row[1] == owner:
        return any([owner[0] in names_of_spot(operand) for operand in operands(row)])
    return owner[0] in names_in(row)


# The rows that change, and what they become


def turn_again(case):
    return [(case.j, ("put", case.rows[case.j][1], case.rows[case.i][1]))]


def turn_known(case):
    return [(case.j, ("put", case.rows[case.j][1], case.rows[case.i][2]))]


def turn_first(case):
    return [(case.i, ("go", case.i + 1))]


def turn_back(case):
    return [(case.j, ("go", case.j + 1))]


def turn_past(case):
    return [(case.i, case.rows[case.i + 1]), (case.i + 1, case.rows[case.i])]


REASONS = {
    "again": ("changed", "lent", "named", "way"), "known": ("changed", "lent", "named", "way"),
    "over": ("named", "way"), "back": ("changed", "lent", "named", "way"), "unread": ("read",),
    "past": ("changed", "lent", "named", "way"),
}
FORMS = {
    "again": is_again, "known": is_known, "over": is_over, "back": is_back, "unread": is_unread, "past": is_past,
}
STANDS = {
    "changed": stands_changed, "lent": stands_lent, "named": stands_named, "read": stands_read, "way": stands_by_way,
}
TURNS = {
    "again": turn_again, "known": turn_known, "over": turn_first, "back": turn_back, "unread": turn_first,
    "past": turn_past,
}
