"""Piles: the tags by which a box may be read and written, the lowest first, each with its word."""

from lendrule.errors import NotSole, Stale


def read_by(pile, tag):
    k = place_of(pile, tag) + 1
    while k < len(pile) and pile[k][1] != "sole":
        k += 1
    return pile[:k]


def written_by(pile, tag):
    k = place_of(pile, tag)
    if pile[k][1] == "lent":
        raise NotSole("this tag is one of many: it lets nothing be written")
    return pile[:k + 1]


def lent_by(pile, tag, new):
    return read_by(pile, tag) + [(new, "lent")]


def soled_by(pile, tag, new):
    return written_by(pile, tag) + [(new, "sole")]


def place_of(pile, tag):
    for k, entry in enumerate(pile):
        if entry[0] == tag:
            return k
    raise Stale("this tag is not in the pile")
