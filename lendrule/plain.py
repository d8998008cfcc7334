"""The plain runner: runs without boxes, tags and faults, in which what is lent to one alone goes along with it."""

from lendrule.acts import ACT, FIRST, MANY, NAME
from lendrule.forms import shape_of
from lendrule.runs import run_from_first, run_on
from lendrule.shapes import blank


def played(program, inputs, most=400):
    going = run_from_first(program, Places(), inputs)
    end = run_on(going, most)
    return (end, going.said, going.count)


# Where a leaf's value is kept; while it is lent to one alone, away is the place that got it.
class Place:

    def __init__(self, value):
        self.value = value
        self.away = None


# A name has a list of places, one for each leaf. Each lending makes new ones: so what a holder had stays there
# for who lent it, whatever the holder is given then.
class Places:

    def owned(self, at, values):
        return [Place(value) for value in values]

    def let(self, at, kind):
        return self.owned(at, blank(shape_of(kind)))

    def touch(self, frame, act):
        return [taken_back(place) for place in places_of(frame, act)]

    def store(self, frame, act, values):
        for place, value in zip(places_of(frame, act), values):
            place.value = value

    def lend(self, frame, act):
        taken = [Place(value) for value in self.touch(frame, act)]
        if act[ACT] == "sole":
            for place, other in zip(places_of(frame, act), taken):
                place.away = other
        return taken

    def let_go(self, frame, things):
        pass


def places_of(frame, act):
    return frame.has[act[NAME]][act[FIRST]:act[FIRST] + act[MANY]]


# Who got the value may have lent it on.
def taken_back(place):
    last = place
    while last.away is not None:
        last = last.away
    place.value = last.value
    place.away = None
    return place.value
