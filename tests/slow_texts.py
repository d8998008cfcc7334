"""Points 35 to 37 once more: which texts write programs is told by patterns, and what they write by their groups."""

import re

NAME = r"[a-z]{1,8}"
NUMBER = r"(?:0|[1-9][0-9]{0,29})"
LEAF = r"(?:num|own|\[[1-8]\])"
SHAPE = LEAF
for _ in range(3):
    SHAPE = rf"(?:{LEAF}|\({SHAPE}(?:,{SHAPE}){{0,3}}\))"
KIND = rf"(?:(?:lent|sole)/)?{SHAPE}"
SPOT = rf"{NAME}\*?(?:\.{NUMBER})*(?:@(?:{NUMBER}|{NAME}))?"
OPERAND = rf"(?:{NUMBER}|{SPOT})"
HEAD = rf"fn ({NAME})((?: {NAME}:{KIND})*)(?: -> (?:({SHAPE})|((?:lent|sole)/{SHAPE})((?: {NAME})*)))?"
LET = rf"let ({NAME}:{KIND})"
ROWS = {
    "put": rf"({SPOT}) ({OPERAND})", "set": rf"({SPOT}) ([-+*]) ({OPERAND}) ({OPERAND})", "fill": rf"({SPOT}) ({OPERAND})",
    "copy": rf"({SPOT}) ({SPOT})", "move": rf"({SPOT}) ({SPOT})", "drop": rf"({SPOT})", "lend": rf"({NAME}) ({SPOT})",
    "sole": rf"({NAME}) ({SPOT})", "call": rf"(-|{NAME}) ({NAME})((?: {NAME})*)",
    "if": rf"({OPERAND}) ({OPERAND}) ({NUMBER})", "go": rf"({NUMBER})", "say": rf"({OPERAND})", "give": rf"({NAME})",
}


def slow_shape(text):
    """The shape, or None."""
    if not re.fullmatch(SHAPE, text) or len(re.findall(r"num|own|\[", text)) > 8:
        return None
    marked = re.sub(r"\[(.)\]", r"('strip',\1)", text.replace("(", "('rec',(").replace(")", ",))"))
    return eval(re.sub(r"num|own", lambda found: f"('{found[0]}',)", marked))


def slow_kind(text):
    word, _, rest = text.rpartition("/")
    shape = slow_shape(rest)
    if shape is None:
        return None
    return (word, shape) if word else shape


def slow_spot(text):
    """The spot, or None."""
    found = re.fullmatch(rf"({NAME})(\*?)((?:\.{NUMBER})*)(?:@(?:({NUMBER})|({NAME})))?", text)
    if not found:
        return None
    name, through, path, number, at = found.groups()
    return name, through == "*", tuple(map(int, re.findall("[0-9]+", path))), int(number) if number else at


def slow_operand(text):
    return int(text) if text[0].isdigit() else slow_spot(text)


def slow_named(word):
    name, kind = word.split(":")
    return name, slow_kind(kind)


def slow_row(line):
    word, _, rest = line.partition(" ")
    if line == "give":
        return "give", ""
    found = re.fullmatch(ROWS.get(word, "(?!)"), rest)
    if not found or line.endswith(" "):
        return None
    some = found.groups()
    if word == "call":
        return word, some[0].replace("-", ""), some[1], tuple(some[2].split())
    if word == "set":
        return word, slow_spot(some[0]), some[1], slow_operand(some[2]), slow_operand(some[3])
    if word == "if":
        return word, slow_operand(some[0]), slow_operand(some[1]), int(some[2])
    if word == "go":
        return word, int(some[0])
    if word in ("lend", "sole"):
        return word, some[0], slow_spot(some[1])
    if word == "give":
        return word, some[0]
    return (word, *map(slow_operand, some))


def slow_head(line):
    """(name, params, result), or None."""
    found = re.fullmatch(HEAD, line)
    if not found:
        return None
    name, params, shape, kind, sources = found.groups()
    params = tuple(map(slow_named, params.split()))
    result = slow_kind(shape or kind) if shape or kind else None
    if None in [one[1] for one in params] or (shape or kind) and result is None:
        return None
    return name, params, result + (tuple(sources.split()),) if kind else result


def slow_read(text):
    """The program that the text writes, right or not; None where it writes none."""
    functions = []
    for line in text.split("\n"):
        if line.startswith("fn"):
            head = slow_head(line)
            if head is None:
                return None
            functions.append(head + ([], []))
        elif not functions:
            return None
        elif re.fullmatch(LET, line) and not functions[-1][4]:
            named = slow_named(line[4:])
            if named[1] is None:
                return None
            functions[-1][3].append(named)
        else:
            row = slow_row(line)
            if row is None:
                return None
            functions[-1][4].append(row)
    return tuple(head + (tuple(lets), tuple(rows)) for *head, lets, rows in functions for head in [tuple(head)])
