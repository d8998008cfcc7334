"""Shapes: what a name can have, and the paths that lead to its parts."""

from lendrule.errors import NoPart

MOST_DEEP = 3
MOST_LEAVES = 8
MOST_PARTS = 4
LONGEST_STRIP = 8


# Python counts True and False among its ints; here they are no numbers.
def is_whole(thing):
    return isinstance(thing, int) and not isinstance(thing, bool)


def is_shape(thing):
    return 1 <= count_leaves(thing, MOST_DEEP) <= MOST_LEAVES


# 0 tells that the thing is no shape, or one deeper than room. The room ends
# the walk early, so that no thing is too deep or too wide to be asked about.
def count_leaves(thing, room):
    # Only texts are compared with words: other things may compare in ways of their own.
    if not isinstance(thing, tuple) or len(thing) == 0 or not isinstance(thing[0], str):
        return 0
    if len(thing) == 1:
        return 1 if thing[0] in ("num", "own") else 0
    if len(thing) != 2:
        return 0
    if thing[0] == "strip":
        return 1 if is_whole(thing[1]) and 1 <= thing[1] <= LONGEST_STRIP else 0
    if thing[0] == "rec" and room > 0:
        return count_in_parts(thing[1], room - 1)
    return 0


def count_in_parts(parts, room):
    if not isinstance(parts, tuple) or not 1 <= len(parts) <= MOST_PARTS:
        return 0
    counts = [count_leaves(one, room) for one in parts]
    return 0 if 0 in counts else sum(counts)


def leaves(shape):
    if shape[0] != "rec":
        return (shape,)
    told = []
    for one in shape[1]:
        told.extend(leaves(one))
    return tuple(told)


# The error's words leave the number out: one of very many figures can't be written.
def check_part(shape, k):
    if shape[0] != "rec":
        raise NoPart("a leaf has no parts")
    if not 0 <= k < len(shape[1]):
        raise NoPart("the rec has no part of this number")


def part(shape, path):
    here = shape
    for k in path:
        check_part(here, k)
        here = here[1][k]
    return here


def first(shape, path):
    here = shape
    ahead = 0
    for k in path:
        check_part(here, k)
        ahead += sum([len(leaves(one)) for one in here[1][:k]])
        here = here[1][k]
    return ahead


def paths(shape):
    told = [()]
    if shape[0] == "rec":
        for k, one in enumerate(shape[1]):
            told.extend([(k,) + rest for rest in paths(one)])
    return told


def meets(path, other):
    shared = min(len(path), len(other))
    return path[:shared] == other[:shared]


def is_copied(shape):
    return ("own",) not in leaves(shape)


def blank(shape):
    return tuple([(0,) * leaf[1] if leaf[0] == "strip" else 0 for leaf in leaves(shape)])
