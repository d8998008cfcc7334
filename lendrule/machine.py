"""The machine: runs with boxes and tags, which end with a fault where a tag or a value is not there."""

from lendrule.acts import row_nexts
from lendrule.boxes import Boxes, Fault
from lendrule.errors import NoWay
from lendrule.forms import is_holder, shape_of
from lendrule.runs import Run, begin, do_row, run_from_first, run_on
from lendrule.shapes import blank


def run(program, inputs, most=400):
    going = run_from_first(program, Boxes(), inputs)
    try:
        end = run_on(going, most)
    except Fault as fault:
        frame = going.frames[-1]
        return ("fault", going.said, going.count, (fault.kind, frame.at, frame.row))
    return (end, going.said, going.count, ())


def journal(program, inputs, most=400):
    world = Boxes()
    going = run_from_first(program, world, inputs)
    try:
        run_on(going, most)
    except Fault:
        pass
    return world.entries


def led(program, at, way):
    check_way(program[at][4], way)
    going = Run(program, Boxes())
    begin(going, at, blank_params(going.world, at, program[at][1]))
    frame = going.frames[-1]
    try:
        for k in way:
            frame.row = k
            do_row(going)
    except Fault as fault:
        return (going.count, fault.kind)
    return (going.count, "")


# A holder has boxes as an owner has them; as it is none, a give leaves them.
def blank_params(world, at, params):
    given = {}
    for name, kind in params:
        values = blank(shape_of(kind))
        given[name] = world.owned(at, values) if is_holder(kind) else values
    return given


def check_way(rows, way):
    if len(way) == 0 or way[0] != 0:
        raise NoWay("a way begins with row 0")
    for k, behind in zip(way, way[1:]):
        if behind not in row_nexts(rows, k):
            raise NoWay("a row of the way is no next of the one ahead")
    if any([rows[k][0] == "call" for k in way]):
        raise NoWay("a call is on the way")
