"""Runs: rows done one after the other, by their acts, in a world that keeps what the names have.

The machine and the plain runner differ in their worlds alone. A world has the methods:
- owned(at, values): what an owner of the function at has, made of its leaves' values;
- let(at, kind): what a name of this kind has to which nothing was given;
- touch(frame, act): the values that the act finds, a list;
- store(frame, act, values): they are where the act touched;
- lend(frame, act): what the act's taker has then;
- let_go(frame, things): the function ends, which had these things of its owners.
"""

from lendrule.acts import ACT, ROW, TAKER, THROUGH, acts, is_lending
from lendrule.forms import is_holder, kind_of, shape_of
from lendrule.rows import operands
from lendrule.shapes import part

MOST_BEGUN = 12


# A function that has begun and not given back, at one of its rows.
class Frame:

    def __init__(self, at, has):
        self.at = at
        self.has = has
        self.row = 0


class Run:

    def __init__(self, program, world):
        self.program = program
        self.world = world
        self.numbers = dict([(function[0], at) for at, function in enumerate(program)])
        self.listed = [acts_by_row(program, at) for at in range(len(program))]
        self.frames = []
        self.said = []
        self.count = 0


def acts_by_row(program, at):
    told = [[] for row in program[at][4]]
    for act in acts(program, at):
        if act[ACT] != "rest":
            told[act[ROW]].append(act)
    return told


def row_of(run, frame):
    return run.program[frame.at][4][frame.row]


def acts_of(run, frame):
    return run.listed[frame.at][frame.row]


def run_from_first(program, world, inputs):
    run = Run(program, world)
    params = program[0][1]
    begin(run, 0, dict([(param[0], [number]) for param, number in zip(params, inputs)]))
    return run


# Given are, by the names of the params, an owner's values or what a holder has.
def begin(run, at, given):
    has = {}
    for name, kind in run.program[at][1]:
        has[name] = given[name] if is_holder(kind) else run.world.owned(at, given[name])
    for name, kind in run.program[at][3]:
        has[name] = run.world.let(at, kind)
    run.frames.append(Frame(at, has))


def run_on(run, most):
    while run.frames:
        if run.count >= most:
            return "more"
        if len(run.frames) == MOST_BEGUN and row_of(run, run.frames[-1])[0] == "call":
            return "deep"
        do_row(run)
    return "done"


# A row counts as done only behind its acts: a fault may come in any of them.
def do_row(run):
    frame = run.frames[-1]
    row = row_of(run, frame)
    if row[0] == "call":
        do_call(run, frame, row)
    elif row[0] == "give":
        do_give(run, frame, row)
    else:
        found = do_acts(run, frame, row, acts_of(run, frame))
        if row[0] == "say":
            run.said.extend(numbers_found(row, found))
        frame.row = row_behind(frame, row, found)
    run.count += 1


def row_behind(frame, row, found):
    if row[0] == "go":
        return row[1]
    if row[0] == "if":
        numbers = numbers_found(row, found)
        if numbers[0] < numbers[1]:
            return row[3]
    return frame.row + 1


# Acts


def do_acts(run, frame, row, some):
    found = []
    for act in some:
        found.append(do_act(run, frame, row, act, found))
    return found


def do_act(run, frame, row, act, found):
    if is_lending(act):
        frame.has[act[TAKER]] = run.world.lend(frame, act)
        return frame.has[act[TAKER]]
    values = run.world.touch(frame, act)
    if act[ACT] in ("fill", "turn"):
        run.world.store(frame, act, written(run.program[frame.at], row, found, values))
    return values


# What a row's last act puts, of what its acts ahead found; old is what was there.
def written(function, row, found, old):
    if row[0] in ("copy", "move"):
        return found[0]
    number = number_put(row, found)
    if row[0] == "fill":
        return [(number,) * strip_of(function, row[1])[1]]
    at = row[1][3]
    if at is None:
        return [number]
    place = (found[-1][0] if isinstance(at, str) else at) % len(old[0])
    return [old[0][:place] + (number,) + old[0][place + 1:]]


def strip_of(function, spot):
    return part(shape_of(kind_of(function, spot[0])), spot[2])


def number_put(row, found):
    numbers = numbers_found(row, found)
    if row[0] != "set":
        return numbers[0]
    if row[2] == "+":
        return (numbers[0] + numbers[1]) % 10 ** 30
    if row[2] == "-":
        return (numbers[0] - numbers[1]) % 10 ** 30
    return numbers[0] * numbers[1] % 10 ** 30


# The operands' acts are the first ones of their row, in the operands' order.
def numbers_found(row, found):
    numbers = []
    k = 0
    for operand in operands(row):
        if not isinstance(operand, tuple):
            numbers.append(operand)
            continue
        at = operand[3]
        if isinstance(at, str):
            at = found[k][0]
            k += 1
        value = found[k][0]
        k += 1
        numbers.append(value if at is None else value[at % len(value)])
    return numbers


# Calls


# A call's first acts are those of its args, one each; what follows is hand, and what is done when it has given back.
def do_call(run, frame, row):
    found = do_acts(run, frame, row, acts_of(run, frame)[:len(row[3])])
    at = run.numbers[row[2]]
    begin(run, at, dict([(param[0], thing) for param, thing in zip(run.program[at][1], found)]))


def do_give(run, frame, row):
    back = given_back(run, frame, row)
    run.frames.pop()
    if run.frames:
        take_back(run, run.frames[-1], back)


# What is lent from the function's own owners is gone ahead of the give's touch.
def given_back(run, frame, row):
    act = acts_of(run, frame)[:1]
    back = None
    if act and not act[0][THROUGH]:
        back = run.world.touch(frame, act[0])
    run.world.let_go(frame, owned_by(run, frame))
    if act and act[0][THROUGH]:
        run.world.touch(frame, act[0])
        back = frame.has[row[1]]
    return back


def owned_by(run, frame):
    function = run.program[frame.at]
    return [frame.has[name] for name, kind in function[1] + function[3] if not is_holder(kind)]


def take_back(run, frame, back):
    act = acts_of(run, frame)[-1]
    if act[ACT] == "take":
        frame.has[act[TAKER]] = back
    elif act[ACT] == "fill":
        run.world.touch(frame, act)
        run.world.store(frame, act, back)
    frame.row += 1
