"""The machine of points 25 to 29 once more, by their words: rows are done spot by spot, calls by calls of Python's own.

What the package tells of runs, journals and led ways is held against this.
"""

from slow_rules import leaf_paths

EMPTY = "empty"
TAKES = {"read": ("sole",), "lend": ("sole",), "write": ("sole", "lent", "own"), "sole": ("sole", "lent", "own")}


class End(Exception):

    def __init__(self, end, fault=()):
        super().__init__(end)
        self.end = end
        self.fault = fault


class Frame:

    def __init__(self, program, at):
        self.at = at
        self.name, self.params, self.result, self.lets, self.rows = program[at]
        self.kinds = dict(self.params + self.lets)
        self.has = {}
        self.row = -1
        self.own = []

    def is_holder(self, name):
        return self.kinds[name][0] in ("lent", "sole")

    def leaves(self, name):
        return leaf_paths(self.kinds[name][1] if self.is_holder(name) else self.kinds[name])


class SlowMachine:

    def __init__(self, program, most=400):
        self.program = program
        self.most = most
        self.piles = []
        self.values = []
        self.tags = 0
        self.frames = []
        self.said = []
        self.count = 0
        self.journal = []

    def run(self, inputs):
        try:
            self.function(0, [[number] for number in inputs])
        except End as end:
            return end.end, self.said, self.count, end.fault
        return "done", self.said, self.count, ()

    def led(self, at, way):
        frame = Frame(self.program, at)
        blanks = [[0 if leaf[0] != "strip" else (0,) * leaf[1] for _, leaf in frame.leaves(name)]
                  for name, _ in frame.params]
        self.begin(frame, [self.new_boxes(frame, values) if frame.is_holder(name) else values
                           for (name, _), values in zip(frame.params, blanks)])
        try:
            for frame.row in way:
                self.do(frame, frame.rows[frame.row])
        except End as end:
            return self.count, end.fault[0]
        return self.count, ""

    # Functions

    def new_tag(self):
        self.tags += 1
        return self.tags - 1

    def new_boxes(self, frame, values):
        tag = self.new_tag()
        boxes = []
        for value in values:
            boxes.append(len(self.piles))
            self.journal.append((frame.at, -1, "own", len(self.piles), tag, -1))
            self.piles.append([(tag, "own")])
            self.values.append(value)
        return boxes, tag

    def begin(self, frame, given):
        self.frames.append(frame)
        for (name, _), thing in list(zip(frame.params, given)) + [(let, None) for let in frame.lets]:
            if frame.is_holder(name):
                frame.has[name] = thing
            else:
                values = [EMPTY] * len(frame.leaves(name)) if thing is None else thing
                frame.has[name] = self.new_boxes(frame, values)
                frame.own.append(frame.has[name])

    def function(self, at, given):
        frame = Frame(self.program, at)
        self.begin(frame, given)
        after = 0
        while after is not None:
            frame.row = after
            row = frame.rows[after]
            if self.count == self.most:
                raise End("more")
            if row[0] == "call" and len(self.frames) == 12:
                raise End("deep")
            after = self.do(frame, row)
        self.frames.pop()
        return frame.back

    # Touches

    def fault(self, kind):
        raise End("fault", (kind, self.frames[-1].at, self.frames[-1].row))

    def touch(self, frame, word, name, path, full, new=-1):
        """The boxes of the part, each touched."""
        if frame.has[name] is None:
            self.fault("empty")
        boxes, tag = frame.has[name]
        some = [box for box, (own, _) in zip(boxes, frame.leaves(name)) if own[:len(path)] == path]
        if word in ("lend", "sole"):
            new = self.new_tag()
        for box in some:
            self.journal.append((frame.at, frame.row, word, box, tag, new))
            pile = self.piles[box]
            places = [k for k, entry in enumerate(pile) if entry[0] == tag]
            if not places:
                self.fault("stale")
            if full and self.values[box] == EMPTY:
                self.fault("empty")
            above = [k for k in range(places[0] + 1, len(pile)) if pile[k][1] in TAKES[word]]
            self.piles[box] = pile[:min(above)] if above else list(pile)
            if new >= 0:
                self.piles[box].append((new, {"lend": "lent", "sole": "sole"}[word]))
        return some, new

    def find(self, frame, name, path, word="read"):
        boxes, _ = self.touch(frame, word, name, path, True)
        found = [self.values[box] for box in boxes]
        if word == "write":
            for box in boxes:
                self.values[box] = EMPTY
        return found

    def place(self, frame, at):
        return self.find(frame, at, ())[0] if isinstance(at, str) else at

    def number(self, frame, operand):
        if isinstance(operand, int):
            return operand
        name, _, path, at = operand
        at = self.place(frame, at)
        value = self.find(frame, name, path)[0]
        return value if at is None else value[at % len(value)]

    def fill(self, frame, spot, values):
        boxes, _ = self.touch(frame, "write", spot[0], spot[2], False)
        for box, value in zip(boxes, values):
            self.values[box] = value

    def put(self, frame, spot, number):
        if spot[3] is None:
            return self.fill(frame, spot, [number])
        place = self.place(frame, spot[3])
        [box], _ = self.touch(frame, "write", spot[0], spot[2], True)
        strip = list(self.values[box])
        strip[place % len(strip)] = number
        self.values[box] = tuple(strip)

    def of_owner(self, frame, name):
        owned = ("own",) in [leaf for _, leaf in frame.leaves(name)]
        return self.find(frame, name, (), "write" if owned else "read")

    def lend(self, frame, word, spot):
        return self.touch(frame, word, spot[0], spot[2], True)

    # Rows: each answers with the row that is next

    def do(self, frame, row):
        after = getattr(self, "do_" + row[0])(frame, *row[1:])
        if row[0] != "call":
            self.count += 1
        return frame.row + 1 if after == "next" else after

    def do_put(self, frame, spot, operand):
        self.put(frame, spot, self.number(frame, operand))
        return "next"

    def do_set(self, frame, spot, sign, one, other):
        one = self.number(frame, one)
        other = self.number(frame, other)
        self.put(frame, spot, {"+": one + other, "-": one - other, "*": one * other}[sign] % 10 ** 30)
        return "next"

    def do_fill(self, frame, spot, operand):
        number = self.number(frame, operand)
        [size] = [leaf[1] for path, leaf in frame.leaves(spot[0]) if path == spot[2]]
        self.fill(frame, spot, [(number,) * size])
        return "next"

    def do_copy(self, frame, spot, source):
        self.fill(frame, spot, self.find(frame, source[0], source[2]))
        return "next"

    def do_move(self, frame, spot, source):
        self.fill(frame, spot, self.find(frame, source[0], source[2], "write"))
        return "next"

    def do_drop(self, frame, source):
        self.find(frame, source[0], source[2], "write")
        return "next"

    def do_lend(self, frame, name, source):
        frame.has[name] = self.lend(frame, "lend", source)
        return "next"

    def do_sole(self, frame, name, source):
        frame.has[name] = self.lend(frame, "sole", source)
        return "next"

    def do_call(self, frame, name, called, args):
        given = []
        for arg in args:
            if frame.is_holder(arg):
                word = {"lent": "lend", "sole": "sole"}[frame.kinds[arg][0]]
                given.append(self.lend(frame, word, (arg, True, (), None)))
            else:
                given.append(self.of_owner(frame, arg))
        self.count += 1
        back = self.function([one[0] for one in self.program].index(called), given)
        if name and frame.is_holder(name):
            frame.has[name] = back
        elif name:
            self.fill(frame, (name, False, (), None), back)
        return "next"

    def do_if(self, frame, one, other, k):
        one = self.number(frame, one)
        return k if one < self.number(frame, other) else "next"

    def do_go(self, frame, k):
        return k

    def do_say(self, frame, operand):
        self.said.append(self.number(frame, operand))
        return "next"

    def do_give(self, frame, name):
        frame.back = None
        if name and not frame.is_holder(name):
            frame.back = self.of_owner(frame, name)
        for boxes, tag in frame.own:
            for box in boxes:
                self.journal.append((frame.at, frame.row, "gone", box, tag, -1))
                self.piles[box] = []
        if name and frame.is_holder(name):
            self.find(frame, name, ())
            frame.back = frame.has[name]
        return None
