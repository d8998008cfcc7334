"""Boxes: the machine's world, in which each leaf lies in a box with a pile of tags."""

from lendrule.acts import ACT, FIRST, MANY, NAME, asks_for_full, is_lending
from lendrule.errors import Stale
from lendrule.forms import is_holder
from lendrule.piles import lent_by, read_by, soled_by, written_by
from lendrule.shapes import leaves

# How an act's touch changes a box's pile.
TOUCHES = {
    "read": "read", "give": "read", "fill": "write", "turn": "write", "empty": "write", "lend": "lend", "sole": "sole",
}


class Fault(Exception):

    def __init__(self, kind):
        self.kind = kind


# A box is empty where its value is None.
class Box:

    def __init__(self, number, tag, value):
        self.number = number
        self.pile = [(tag, "own")]
        self.value = value


# What a name has: boxes, and the tag by which it touches them.
class Grip:

    def __init__(self, boxes, tag):
        self.boxes = boxes
        self.tag = tag


class Boxes:

    def __init__(self):
        self.entries = []
        self.boxes_made = 0
        self.tags_made = 0

    def new_tag(self):
        self.tags_made += 1
        return self.tags_made - 1

    def new_box(self, at, tag, value):
        box = Box(self.boxes_made, tag, value)
        self.boxes_made += 1
        self.entries.append((at, -1, "own", box.number, tag, -1))
        return box

    def owned(self, at, values):
        tag = self.new_tag()
        return Grip([self.new_box(at, tag, value) for value in values], tag)

    # A holder that holds nothing has None.
    def let(self, at, kind):
        return None if is_holder(kind) else self.owned(at, [None] * len(leaves(kind)))

    def touch(self, frame, act):
        check_held(frame, act)
        return self.touch_boxes(frame, act, -1)

    def lend(self, frame, act):
        check_held(frame, act)
        new = self.new_tag()
        self.touch_boxes(frame, act, new)
        return Grip(boxes_of(frame, act), new)

    def touch_boxes(self, frame, act, new):
        found = []
        tag = frame.has[act[NAME]].tag
        for box in boxes_of(frame, act):
            self.entries.append((frame.at, frame.row, TOUCHES[act[ACT]], box.number, tag, new))
            pile = pile_behind(box.pile, TOUCHES[act[ACT]], tag, new)
            if asks_for_full(act) and box.value is None:
                raise Fault("empty")
            box.pile = pile
            found.append(box.value)
            if act[ACT] == "empty":
                box.value = None
        return found

    def store(self, frame, act, values):
        for box, value in zip(boxes_of(frame, act), values):
            box.value = value

    def let_go(self, frame, grips):
        for grip in grips:
            for box in grip.boxes:
                self.entries.append((frame.at, frame.row, "gone", box.number, grip.tag, -1))
                box.pile = []


def check_held(frame, act):
    if frame.has[act[NAME]] is None:
        raise Fault("empty")


def boxes_of(frame, act):
    return frame.has[act[NAME]].boxes[act[FIRST]:act[FIRST] + act[MANY]]


def pile_behind(pile, touch, tag, new):
    try:
        if touch == "read":
            return read_by(pile, tag)
        if touch == "write":
            return written_by(pile, tag)
        return lent_by(pile, tag, new) if touch == "lend" else soled_by(pile, tag, new)
    except Stale:
        raise Fault("stale") from None
