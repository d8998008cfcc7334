"""Ways: from the first act on to another."""

from lendrule.acts import arrivals, nexts
from lendrule.errors import NoWay
from lendrule.spread import numbers_of, steps_back


def way_to(program, at, act):
    return way_along(arrivals(nexts(program, at)), act)


def way_along(reached, act):
    places = numbers_of(reached)
    if (act,) not in places:
        raise NoWay("no way leads to this act")
    return [step[0] for step in reversed(steps_back(reached, places[(act,)]))]
