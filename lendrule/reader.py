"""The reader: texts read to what they write. Only what words would write is read, sign for sign."""

from lendrule.errors import Misfit, NoText
from lendrule.forms import HOLDER_WORDS, SIGNS, is_holder, is_name, is_right
from lendrule.rows import sorts_of
from lendrule.shapes import MOST_DEEP, is_shape

MOST_FIGURES = 30


def read(text):
    program = read_program(text)
    if not is_right(program):
        raise Misfit("the program is not right")
    return program


def read_shape(text):
    shape = read_any_shape(text, MOST_DEEP)
    if not is_shape(shape):
        raise NoText("no shape is like this")
    return shape


def read_spot(text):
    body = text.partition("@")
    steps = body[0].split(".")
    through = steps[0].endswith("*")
    name = read_name(steps[0][:-1] if through else steps[0])
    path = tuple([read_number(step) for step in steps[1:]])
    return (name, through, path, None if body[1] == "" else read_at(body[2]))


# Names, numbers, signs and operands


def read_name(text):
    if not is_name(text):
        raise NoText("a name is missing")
    return text


def read_number(text):
    if not are_figures(text) or len(text) > MOST_FIGURES:
        raise NoText("a number is missing")
    if text[0] == "0" and text != "0":
        raise NoText("a nought is ahead of a number")
    return int(text)


def are_figures(text):
    return text != "" and all(["0" <= sign <= "9" for sign in text])


def read_sign(text):
    if text not in SIGNS:
        raise NoText("a sign is missing")
    return text


def read_at(text):
    return read_number(text) if are_figures(text) else read_name(text)


def read_operand(text):
    return read_number(text) if are_figures(text) else read_spot(text)


# Shapes and kinds


# The room ends the walk where no shape is so deep; how many parts and leaves there may be is asked of the whole.
def read_any_shape(text, room):
    if text in ("num", "own"):
        return (text,)
    if text.startswith("[") and text.endswith("]"):
        return ("strip", read_number(text[1:-1]))
    if text.startswith("(") and text.endswith(")") and room > 0:
        return ("rec", tuple([read_any_shape(one, room - 1) for one in split_parts(text[1:-1])]))
    raise NoText("a shape is missing")


# Parted by the commas that stand in no inner rec.
def split_parts(text):
    parts = []
    begun = 0
    deep = 0
    for k, sign in enumerate(text):
        if sign == "," and deep == 0:
            parts.append(text[begun:k])
            begun = k + 1
        elif sign == "(":
            deep += 1
        elif sign == ")":
            deep -= 1
    return parts + [text[begun:]]


def read_kind(text):
    halves = text.partition("/")
    if halves[1] == "":
        return read_shape(text)
    if halves[0] not in HOLDER_WORDS:
        raise NoText("a holder's word is missing")
    return (halves[0], read_shape(halves[2]))


# Programs


def read_program(text):
    lines = [line.split(" ") for line in text.split("\n")]
    heads = [k for k, words in enumerate(lines) if words[0] == "fn"]
    if heads[:1] != [0]:
        raise NoText("the text does not begin with a function")
    ends = heads[1:] + [len(lines)]
    return tuple([read_function(lines[k:end]) for k, end in zip(heads, ends)])


def read_function(lines):
    k = 1
    while k < len(lines) and lines[k][0] == "let":
        k += 1
    lets = tuple([read_let(words) for words in lines[1:k]])
    rows = tuple([read_row(words) for words in lines[k:]])
    return read_head(lines[0]) + (lets, rows)


def read_head(words):
    if len(words) < 2:
        raise NoText("a function's name is missing")
    end = words.index("->") if "->" in words else len(words)
    params = tuple([read_named(word) for word in words[2:end]])
    return (read_name(words[1]), params, read_result(words[end:]))


# Of an arrow and what follows it, if it is there.
def read_result(words):
    if words == []:
        return None
    if len(words) == 1:
        raise NoText("a result is missing")
    kind = read_kind(words[1])
    if is_holder(kind):
        return kind + (tuple([read_name(word) for word in words[2:]]),)
    if len(words) > 2:
        raise NoText("only what is lent has sources")
    return kind


def read_let(words):
    if len(words) != 2:
        raise NoText("a let is of one name")
    return read_named(words[1])


def read_named(word):
    halves = word.partition(":")
    return (read_name(halves[0]), read_kind(halves[2]))


# Rows


def read_row(words):
    if words[0] == "call":
        return read_call(words)
    if words == ["give"]:
        return ("give", "")
    sorts = sorts_of(words[0])
    if sorts is None or len(words) != len(sorts) + 1:
        raise NoText("no row is like this")
    return (words[0],) + tuple([READERS[sort](word) for sort, word in zip(sorts, words[1:])])


def read_call(words):
    if len(words) < 3:
        raise NoText("a call tells a name and a function")
    back = "" if words[1] == "-" else read_name(words[1])
    return ("call", back, read_name(words[2]), tuple([read_name(word) for word in words[3:]]))


READERS = {
    "spot": read_spot, "operand": read_operand, "sign": read_sign, "name": read_name, "row": read_number,
}
