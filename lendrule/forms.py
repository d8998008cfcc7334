"""Forms: names, kinds, spots, operands and rows, and which programs are right."""

from lendrule.errors import NoName
from lendrule.shapes import is_copied, is_shape, is_whole, part, paths

MOST_SIGNS = 8
MOST_FUNCTIONS = 6
MOST_PARAMS = 4
MOST_LETS = 8
MOST_ROWS = 32
HOLDER_WORDS = ("lent", "sole")
SIGNS = ("+", "-", "*")
NUM = ("num",)


def kind_of(function, name):
    for own_name, kind in function[1] + function[3]:
        if own_name == name:
            return kind
    raise NoName("the function has no such name")


def is_right(program):
    if not is_tuple_from(program, 1, MOST_FUNCTIONS):
        return False
    # Rows are looked at last: they lean on the heads of all functions.
    if not all([is_head(function) for function in program]):
        return False
    if not are_apart([function[0] for function in program]) or not may_be_run(program[0]):
        return False
    return all([are_rows(Scene(program, function), function[4]) for function in program])


# What the rows of one function may speak of.
class Scene:

    def __init__(self, program, function):
        self.kinds = dict(function[1] + function[3])
        self.result = function[2]
        self.size = len(function[4])
        self.heads = dict([(one[0], one) for one in program])


def is_tuple_from(thing, least, most):
    return isinstance(thing, tuple) and least <= len(thing) <= most


def is_tuple_of(thing, many):
    return is_tuple_from(thing, many, many)


# Names and kinds


def is_name(thing):
    if not isinstance(thing, str) or not 1 <= len(thing) <= MOST_SIGNS:
        return False
    return all(["a" <= sign <= "z" for sign in thing])


def are_apart(names):
    return all([is_name(name) for name in names]) and len(set(names)) == len(names)


def is_holder_kind(thing):
    if not is_tuple_of(thing, 2) or not isinstance(thing[0], str):
        return False
    return thing[0] in HOLDER_WORDS and is_shape(thing[1])


def is_kind(thing):
    return is_shape(thing) or is_holder_kind(thing)


# Of a kind or a result that is one: the words of holders are none of the shapes' words.
def is_holder(kind):
    return kind[0] in HOLDER_WORDS


def shape_of(kind):
    return kind[1] if is_holder(kind) else kind


def has_kind(scene, name, kind):
    return isinstance(name, str) and scene.kinds.get(name) == kind


# Heads: all of a function but what its rows say


def is_head(function):
    if not is_tuple_of(function, 5):
        return False
    if not are_named(function[1], MOST_PARAMS) or not are_named(function[3], MOST_LETS):
        return False
    if not are_apart([name for name, kind in function[1] + function[3]]):
        return False
    return is_result(function[2], function[1]) and is_tuple_from(function[4], 1, MOST_ROWS)


def are_named(thing, most):
    if not is_tuple_from(thing, 0, most):
        return False
    return all([is_tuple_of(one, 2) and is_kind(one[1]) for one in thing])


def is_result(result, params):
    if result is None or is_shape(result):
        return True
    if not is_tuple_of(result, 3) or not is_holder_kind(result[:2]):
        return False
    return are_sources(result[2], params)


# Built anew from the params, the sources come out each once and in the params' order.
def are_sources(sources, params):
    if not isinstance(sources, tuple):
        return False
    holders = [name for name, kind in params if is_holder(kind)]
    return sources == tuple([name for name in holders if name in sources])


def may_be_run(function):
    return function[2] is None and all([kind == NUM for name, kind in function[1]])


# Spots and operands


def is_spot(scene, thing):
    if not is_tuple_of(thing, 4) or not isinstance(thing[0], str) or thing[0] not in scene.kinds:
        return False
    kind = scene.kinds[thing[0]]
    if not isinstance(thing[1], bool) or thing[1] != is_holder(kind):
        return False
    return is_path(shape_of(kind), thing[2]) and is_at(scene, spot_shape(scene, thing), thing[3])


def is_path(shape, thing):
    if not isinstance(thing, tuple) or not all([is_whole(k) for k in thing]):
        return False
    return thing in paths(shape)


def spot_shape(scene, spot):
    return part(shape_of(scene.kinds[spot[0]]), spot[2])


def is_at(scene, shape, at):
    if at is None:
        return True
    if shape[0] != "strip":
        return False
    return has_kind(scene, at, NUM) or (is_whole(at) and 0 <= at < shape[1])


def is_number_spot(scene, thing):
    if not is_spot(scene, thing):
        return False
    return thing[3] is not None or spot_shape(scene, thing)[0] in ("num", "own")


def is_part_spot(scene, thing):
    return is_spot(scene, thing) and thing[3] is None


def is_owned_part(scene, thing):
    return is_part_spot(scene, thing) and not thing[1]


def is_written_part(scene, thing):
    return is_part_spot(scene, thing) and may_be_written(scene, thing)


def may_be_written(scene, spot):
    return not spot[1] or scene.kinds[spot[0]][0] == "sole"


def is_operand(scene, thing):
    if is_whole(thing):
        return 0 <= thing < 10 ** 30
    return is_number_spot(scene, thing)


# Rows


def are_rows(scene, rows):
    return all([is_row(scene, row) for row in rows]) and rows[-1][0] in ("go", "give")


def is_row(scene, row):
    # The word must be a text ahead of the look-up: not all things can be looked up.
    if not isinstance(row, tuple) or len(row) == 0 or not isinstance(row[0], str):
        return False
    if row[0] not in LENGTHS or len(row) != LENGTHS[row[0]]:
        return False
    return CHECKS[row[0]](scene, row)


def is_put(scene, row):
    return is_target(scene, row[1]) and is_operand(scene, row[2])


def is_target(scene, thing):
    return is_number_spot(scene, thing) and may_be_written(scene, thing)


def is_set(scene, row):
    if row[2] not in SIGNS:
        return False
    return is_target(scene, row[1]) and is_operand(scene, row[3]) and is_operand(scene, row[4])


def is_fill(scene, row):
    if not is_written_part(scene, row[1]) or spot_shape(scene, row[1])[0] != "strip":
        return False
    return is_operand(scene, row[2])


def is_copy(scene, row):
    if not is_written_part(scene, row[1]) or not is_part_spot(scene, row[2]):
        return False
    return are_alike(scene, row[1], row[2]) and is_copied(spot_shape(scene, row[2]))


def are_alike(scene, spot, other):
    return spot_shape(scene, spot) == spot_shape(scene, other)


def is_move(scene, row):
    if not is_written_part(scene, row[1]) or not is_owned_part(scene, row[2]):
        return False
    return are_alike(scene, row[1], row[2])


def is_drop(scene, row):
    return is_owned_part(scene, row[1])


def is_lend(scene, row):
    return is_part_spot(scene, row[2]) and has_kind(scene, row[1], ("lent", spot_shape(scene, row[2])))


def is_sole(scene, row):
    return is_written_part(scene, row[2]) and has_kind(scene, row[1], ("sole", spot_shape(scene, row[2])))


def is_call(scene, row):
    if not isinstance(row[2], str) or row[2] not in scene.heads:
        return False
    called = scene.heads[row[2]]
    if not is_tuple_of(row[3], len(called[1])) or not takes_back(scene, row[1], called[2]):
        return False
    return all([has_kind(scene, arg, param[1]) for arg, param in zip(row[3], called[1])])


# N of a call and N of a give are held to the same: what is given back must fit both.
def takes_back(scene, name, result):
    if result is None:
        return name == ""
    return has_kind(scene, name, result[:2] if is_holder(result) else result)


def is_if(scene, row):
    return is_operand(scene, row[1]) and is_operand(scene, row[2]) and is_jump(scene, row[3])


def is_jump(scene, thing):
    return is_whole(thing) and 0 <= thing < scene.size


def is_go(scene, row):
    return is_jump(scene, row[1])


def is_say(scene, row):
    return is_operand(scene, row[1])


def is_give(scene, row):
    return takes_back(scene, row[1], scene.result)


LENGTHS = {
    "put": 3, "set": 5, "fill": 3, "copy": 3, "move": 3, "drop": 2, "lend": 3,
    "sole": 3, "call": 4, "if": 4, "go": 2, "say": 2, "give": 2,
}
CHECKS = {
    "put": is_put, "set": is_set, "fill": is_fill, "copy": is_copy, "move": is_move,
    "drop": is_drop, "lend": is_lend, "sole": is_sole, "call": is_call, "if": is_if,
    "go": is_go, "say": is_say, "give": is_give,
}
