"""Words: shapes, kinds, spots, rows and programs as texts."""

from lendrule.forms import is_holder
from lendrule.rows import pieces


def shown(program):
    lines = []
    for function in program:
        lines.append(show_head(function))
        lines.extend(["let " + show_named(named) for named in function[3]])
        lines.extend([show_row(row) for row in function[4]])
    return "\n".join(lines)


def show_shape(shape):
    if shape[0] == "strip":
        return "[" + str(shape[1]) + "]"
    if shape[0] == "rec":
        return "(" + ",".join([show_shape(one) for one in shape[1]]) + ")"
    return shape[0]


def show_kind(kind):
    if is_holder(kind):
        return kind[0] + "/" + show_shape(kind[1])
    return show_shape(kind)


def show_spot(spot):
    text = spot[0]
    if spot[1]:
        text += "*"
    for k in spot[2]:
        text += "." + str(k)
    if spot[3] is not None:
        text += "@" + str(spot[3])
    return text


def show_named(named):
    return named[0] + ":" + show_kind(named[1])


def show_head(function):
    words = ["fn", function[0]] + [show_named(named) for named in function[1]]
    result = function[2]
    if result is not None:
        words.extend(["->", show_kind(result)])
        if is_holder(result):
            words.extend(result[2])
    return " ".join(words)


def show_row(row):
    words = [row[0]]
    for sort, thing in pieces(row):
        words.extend(show_piece(row[0], sort, thing))
    return " ".join(words)


def show_piece(word, sort, thing):
    if sort == "args":
        return list(thing)
    if sort == "name" and thing == "":
        return ["-"] if word == "call" else []
    # A spot, as a number is no tuple and neither is a name or a sign.
    if isinstance(thing, tuple):
        return [show_spot(thing)]
    return [str(thing)]
