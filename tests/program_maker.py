"""Makes right programs, and programs near them, by a seeded chance; and tells by listing which are right.

The listing is another way to the same answer: all right spots of a function are written out, and a row's
pieces are looked up among them.
"""

BOUND = 10 ** 30
NUM = ("num",)
LETTERS = "abcdefghijklmnopqrstuvwxyz"
SIGNS = [chr(code) for code in range(ord(" "), ord("~") + 1)]
ALIKE = {"put": "fill", "fill": "put", "copy": "move", "move": "copy", "lend": "sole", "sole": "lend"}


# The listing


def measure(thing, room=4):
    """(depth, number of leaves) of a shape, else None."""
    if not isinstance(thing, tuple) or len(thing) not in (1, 2) or room == 0:
        return None
    if thing in (("num",), ("own",)):
        return 0, 1
    if len(thing) == 1:
        return None
    if thing[0] == "strip":
        return (0, 1) if type(thing[1]) is int and thing[1] in range(1, 9) else None
    if thing[0] != "rec" or not isinstance(thing[1], tuple) or len(thing[1]) not in (1, 2, 3, 4):
        return None
    inner = [measure(one, room - 1) for one in thing[1]]
    if None in inner:
        return None
    return 1 + max(deep for deep, _ in inner), sum(many for _, many in inner)


def good_shape(thing):
    told = measure(thing)
    return told is not None and told[0] <= 3 and told[1] <= 8


def good_kind(thing):
    if good_shape(thing):
        return True
    return isinstance(thing, tuple) and len(thing) == 2 and thing[0] in ("lent", "sole") and good_shape(thing[1])


def good_name(thing):
    return thing != "" and len(thing) <= 8 and not set(thing) - set(LETTERS)


def good_result(result, params):
    if result is None or good_shape(result):
        return True
    if len(result) != 3 or result[0] not in ("lent", "sole") or not good_shape(result[1]):
        return False
    order = [name for name, kind in params if kind[0] in ("lent", "sole")]
    places = [order.index(name) if name in order else -1 for name in result[2]]
    return -1 not in places and all(one < other for one, other in zip(places, places[1:]))


def walk(shape):
    """Each path with its part."""
    yield (), shape
    if shape[0] == "rec":
        for k, one in enumerate(shape[1]):
            for path, inner in walk(one):
                yield (k,) + path, inner


def all_spots(function):
    """Each right spot with (shape, or None for a place of a strip; whether it may be written)."""
    told = {}
    nums = [name for name, kind in function[1] + function[3] if kind == NUM]
    for name, kind in function[1] + function[3]:
        through = kind[0] in ("lent", "sole")
        for path, shape in walk(kind[1] if through else kind):
            told[(name, through, path, None)] = (shape, kind[0] != "lent")
            if shape[0] == "strip":
                for at in list(range(shape[1])) + nums:
                    told[(name, through, path, at)] = (None, kind[0] != "lent")
    return told


def comes_back(function, result):
    if result is None:
        return [""]
    kind = result[:2] if len(result) == 3 else result
    return [name for name, own in function[1] + function[3] if own == kind]


class Listing:

    def __init__(self, program, function):
        self.program = program
        self.function = function
        self.spots = all_spots(function)
        self.kinds = dict(function[1] + function[3])
        whole = {spot: told for spot, told in self.spots.items() if told[0] is not None}
        self.shapes = {spot: told[0] for spot, told in whole.items()}
        self.written = [spot for spot, told in whole.items() if told[1]]
        self.owned = [spot for spot in whole if not spot[1]]
        self.numbers = [spot for spot, told in self.spots.items() if told[0] in (None, ("num",), ("own",))]
        self.targets = [spot for spot in self.numbers if self.spots[spot][1]]
        self.strips = [spot for spot in self.written if self.shapes[spot][0] == "strip"]

    def operand(self, thing):
        return 0 <= thing < BOUND if isinstance(thing, int) else thing in self.numbers

    def alike(self, spot, other):
        return self.shapes[spot] == self.shapes[other]

    def row(self, row):
        word, some = row[0], row[1:]
        if word == "put":
            return some[0] in self.targets and self.operand(some[1])
        if word == "set":
            return some[0] in self.targets and some[1] in ("+", "-", "*") and all(map(self.operand, some[2:]))
        if word == "fill":
            return some[0] in self.strips and self.operand(some[1])
        if word == "copy":
            return (some[0] in self.written and some[1] in self.shapes and self.alike(*some)
                    and "'own'" not in repr(self.shapes[some[0]]))
        if word == "move":
            return some[0] in self.written and some[1] in self.owned and self.alike(*some)
        if word == "drop":
            return some[0] in self.owned
        if word in ("lend", "sole"):
            held = ({"lend": "lent", "sole": "sole"}[word], self.shapes.get(some[1]))
            return (self.kinds.get(some[0]) == held) and (word == "lend" or some[1] in self.written)
        return self.going(word, some)

    def going(self, word, some):
        there = range(len(self.function[4]))
        if word == "call":
            called = [one for one in self.program if one[0] == some[1]]
            asked = [kind for _, kind in called[0][1]] if called else None
            return asked == [self.kinds.get(name) for name in some[2]] and some[0] in comes_back(
                self.function, called[0][2])
        if word == "if":
            return self.operand(some[0]) and self.operand(some[1]) and some[2] in there
        if word == "go":
            return some[0] in there
        if word == "say":
            return self.operand(some[0])
        return word == "give" and some[0] in comes_back(self.function, self.function[2])


def listed_right(program):
    names = [function[0] for function in program]
    if not 1 <= len(program) <= 6 or len(set(names)) < len(names) or not all(map(good_name, names)):
        return False
    for name, params, result, lets, rows in program:
        own = [one for one, _ in params + lets]
        if len(params) > 4 or len(lets) > 8 or not 1 <= len(rows) <= 32 or len(set(own)) < len(own):
            return False
        if not all(map(good_name, own)) or not all(good_kind(kind) for _, kind in params + lets):
            return False
        if not good_result(result, params):
            return False
    if program[0][2] is not None or {kind for _, kind in program[0][1]} - {NUM}:
        return False
    for function in program:
        listing = Listing(program, function)
        if not all(map(listing.row, function[4])) or function[4][-1][0] not in ("go", "give"):
            return False
    return True


# The maker


class Maker:

    def __init__(self, rng):
        self.rng = rng

    def often(self, share):
        return self.rng.random() < share

    def text(self):
        return "".join(self.rng.choice(SIGNS) for _ in range(self.rng.choice([0, 1, 1, 2, 3, 8, 9])))

    def number(self):
        rng = self.rng
        return rng.choice([0, 1, 2, 3, 7, 8, 9, -1, -2, 31, 32, BOUND - 1, BOUND, -BOUND, 10 ** 5000, -10 ** 5000,
                           rng.randrange(-20, 40), rng.randrange(BOUND)])

    def shape(self, room=2):
        rng = self.rng
        if room == 0 or self.often(0.65):
            return rng.choice([NUM, NUM, ("own",), ("strip", rng.choice([1, 3]))])
        return ("rec", tuple(self.shape(room - 1) for _ in range(rng.randrange(1, 3))))

    def no_shape(self):
        rng = self.rng
        deep = NUM
        for _ in range(rng.choice([1, 3, 4, 100])):
            deep = ("rec", (deep,))
        return rng.choice([
            (), (self.text(),), ("strip", self.number()), ("strip", self.text()), ("rec", ()), deep, ("num", 0),
            ("rec", (self.shape(),) * 5), ("rec", (self.shape(), ())), ("rec", self.shape()), (self.shape(),),
            ("rec", ("rec", (NUM,) * 4), ("rec", (NUM,) * rng.choice([4, 5]))), (self.number(), self.number()),
            ("rec", (("rec", (NUM,) * 4), ("rec", (NUM,) * 4), NUM)), ("lent", NUM), (None,), ([],), ("strip", [1]),
            ("rec", [NUM]), ({},), ("rec", (None,)), ((), (), ()), (False,), ("strip", True), ("lent", (), ()),
        ])

    def kind(self):
        shape = self.shape() if self.often(0.6) else NUM
        return self.rng.choice([shape, shape, ("lent", shape), ("sole", shape)])

    def head(self, name, number):
        rng = self.rng
        names = rng.sample(LETTERS, 12)
        params = tuple((one, NUM if number == 0 else self.kind()) for one in names[:rng.randrange(5)])
        lets = tuple((one, self.kind()) for one in names[4:rng.randrange(5, 13)])
        holders = tuple(one for one, kind in params if kind[0] in ("lent", "sole") and self.often(0.7))
        own = [kind for _, kind in params + lets]
        kind = rng.choice(own)
        result = kind + (holders,) if kind[0] in ("lent", "sole") else kind
        return (name, params, None if number == 0 or self.often(0.2) else result, lets)

    def program(self):
        rng = self.rng
        heads = [self.head(name, k) for k, name in enumerate(rng.sample(["main", "f", "g", "abcdefgh"],
                                                                        rng.randrange(1, 4)))]
        sizes = [rng.randrange(1, 9) for _ in heads]
        blanks = tuple(head + ((None,) * size,) for head, size in zip(heads, sizes))
        return tuple(head + (self.rows(Listing(blanks, blank), size),)
                     for head, blank, size in zip(heads, blanks, sizes))

    def rows(self, listing, size):
        told = []
        while len(told) < size - 1:
            row = self.row(listing)
            if listing.row(row):
                told.append(row)
        back = comes_back(listing.function, listing.function[2])
        last = ("give", self.rng.choice(back)) if back and self.often(0.7) else ("go", self.rng.randrange(size))
        return tuple(told) + (last,)

    def operand(self, listing):
        if listing.numbers and self.often(0.6):
            return self.rng.choice(listing.numbers)
        return self.rng.choice([0, 1, 5, BOUND - 1])

    def row(self, listing):
        """A row with pieces of the right kinds, that perhaps do not fit one another."""
        rng = self.rng
        operand = self.operand(listing)
        other = self.operand(listing)
        jump = rng.randrange(len(listing.function[4]))
        spots = list(listing.shapes)
        spot = rng.choice(spots)
        target = rng.choice(listing.targets or spots)
        name = rng.choice(list(listing.kinds))
        called = rng.choice(listing.program)
        args = tuple(rng.choice([one for one, own in listing.kinds.items() if own == kind] or [name])
                     for _, kind in called[1])
        back = rng.choice(comes_back(listing.function, called[2]) or [name])
        same = [one for one in spots if listing.alike(one, spot)]
        held = [one for one, kind in listing.kinds.items() if kind[1:] == (listing.shapes[spot],)] or [name]
        return rng.choice([
            ("put", target, operand), ("set", target, rng.choice("+-*"), operand, other),
            ("fill", rng.choice(listing.strips or spots), operand), ("copy", rng.choice(same), spot),
            ("move", rng.choice(same), spot), ("drop", spot), ("lend", rng.choice(held), spot),
            ("sole", rng.choice(held), spot), ("call", back, called[0], args), ("if", operand, other, jump),
            ("go", jump), ("say", operand),
            ("give", rng.choice(comes_back(listing.function, listing.function[2]) or [name])),
        ])

    # Programs near right ones

    def near(self, program):
        """The program with one piece changed for another of the same kind of thing."""
        rng = self.rng
        at = rng.randrange(len(program))
        name, params, result, lets, rows = program[at]
        names = [one for function in program for one, _ in function[1] + function[3]] or ["a"]
        choice = rng.randrange(14)
        if choice == 0:
            name = rng.choice([self.text(), rng.choice(program)[0]])
        elif choice == 1:
            params = self.other_named(params, names)
        elif choice == 2:
            lets = self.other_named(lets, names)
        elif choice == 3:
            result = self.other_result(result, names)
        elif choice == 4:
            rows = rng.choice([rows[:-1], rows + rows[-1:], rows[-1:] * 32, rows[-1:] * 33, rows[::-1]])
        else:
            k = rng.randrange(len(rows))
            rows = rows[:k] + (self.other_row(rows[k], names, program),) + rows[k + 1:]
        return program[:at] + ((name, params, result, lets, rows),) + program[at + 1:]

    def other_named(self, named, names):
        rng = self.rng
        new = (rng.choice([self.text(), rng.choice(names)]), rng.choice([self.kind(), self.no_shape()]))
        if not named or self.often(0.2):
            return named + (new,) * rng.choice([1, 1, 5])
        k = rng.randrange(len(named))
        changed = rng.choice([(new[0], named[k][1]), (named[k][0], new[1])])
        return rng.choice([named[:k] + named[k + 1:], named[:k] + (changed,) + named[k + 1:]])

    def other_result(self, result, names):
        rng = self.rng
        sources = tuple(rng.choice(names + [self.text()]) for _ in range(rng.randrange(4)))
        if result is not None and len(result) == 3 and self.often(0.7):
            return result[:2] + (rng.choice([sources, result[2] * 2, result[2][::-1], result[2][1:]]),)
        return rng.choice([None, self.shape(), self.no_shape(), (rng.choice(["lent", "sole"]), self.shape(), sources)])

    def other_name(self, names):
        return self.rng.choice([self.text(), "", self.rng.choice(names), self.rng.choice(names)])

    def other_spot(self, spot, names):
        rng = self.rng
        name, through, path, at = spot
        return rng.choice([
            (self.other_name(names), through, path, at), (name, not through, path, at),
            (name, through, path + (self.number(),), at), (name, through, path[:-1], at),
            (name, through, tuple(self.number() for _ in path), at), (name, through, path, None),
            (name, through, path, self.number()), (name, through, path, self.other_name(names)),
        ])

    def other_operand(self, thing, names):
        if isinstance(thing, int) or self.often(0.1):
            return self.rng.choice([self.number(), (self.rng.choice(names), False, (), None)])
        return self.other_spot(thing, names)

    def other_row(self, row, names, program):
        rng = self.rng
        if row[0] in ALIKE and self.often(0.2):
            return (ALIKE[row[0]],) + row[1:]
        k = rng.randrange(1, len(row))
        piece = row[k]
        if row[0] == "call" and k == 2:
            piece = rng.choice([self.text(), rng.choice(program)[0]])
        elif row[0] == "call" and k == 3:
            piece = rng.choice([piece[1:], piece + (rng.choice(names),), tuple(self.other_name(names) for _ in piece)])
        elif (row[0], k) in (("if", 3), ("go", 1)):
            piece = self.number()
        elif row[0] == "set" and k == 2:
            piece = rng.choice(["+", "-", "*", self.text()])
        elif isinstance(piece, str):
            piece = self.other_name(names)
        else:
            piece = self.other_operand(piece, names) if row[0] in ("say", "if") or k > 1 else self.other_spot(piece, names)
        return row[:k] + (piece,) + row[k + 1:]


class LendingMaker(Maker):
    """Makes right programs of few shapes, in which much is lent and lent on."""

    def __init__(self, rng, most_rows=12):
        super().__init__(rng)
        self.most_rows = most_rows
        self.shapes = [NUM, rng.choice([("own",), ("strip", 2), ("rec", (NUM, NUM)), ("rec", (NUM, ("own",)))])]

    def kind(self):
        return self.rng.choice(["lent", "sole", "sole"]), self.rng.choice(self.shapes)

    def head(self, name, number):
        rng = self.rng
        names = rng.sample(LETTERS, 12)
        params = tuple((one, NUM if number == 0 else rng.choice([self.kind(), self.kind(), rng.choice(self.shapes)]))
                       for one in names[:rng.randrange(1, 4)])
        owners = tuple((one, shape) for one, shape in zip(names[4:], self.shapes))
        lets = owners + tuple((one, self.kind()) for one in names[6:rng.randrange(8, 13)])
        result = rng.choice([None, *[kind for _, kind in params + lets if kind[0] in ("lent", "sole")]])
        sources = tuple(one for one, kind in params if kind[0] in ("lent", "sole") and self.often(0.7))
        return name, params, None if number == 0 or result is None else result + (sources,), lets

    def program(self):
        heads = [self.head(name, k) for k, name in enumerate(["main", "f", "g"][:self.rng.randrange(1, 4)])]
        sizes = [self.rng.randrange(2, self.most_rows + 1) for _ in heads]
        blanks = tuple(head + ((None,) * size,) for head, size in zip(heads, sizes))
        return tuple(head + (self.rows(Listing(blanks, blank), size),)
                     for head, blank, size in zip(heads, blanks, sizes))

    def rows(self, listing, size):
        # What is filled at the beginning leaves fewer claims of emptiness.
        start = [("put", spot, 1) for spot in listing.targets if not spot[1] and spot[3] is None]
        start += [("fill", spot, 1) for spot in listing.strips if not spot[1]]
        told = start[:max(size - 2, 0)] if self.often(0.8) else []
        return tuple(told) + super().rows(listing, size - len(told))

    def row(self, listing):
        if self.often(0.4):
            return super().row(listing)
        rng = self.rng
        spot = rng.choice(list(listing.shapes))
        held = [one for one, kind in listing.kinds.items() if kind[1:] == (listing.shapes[spot],)]
        number = rng.choice([one for one in listing.numbers if one[1]] or listing.numbers)
        if held and self.often(0.5):
            taker = rng.choice(held)
            return {"lent": "lend", "sole": "sole"}[listing.kinds[taker][0]], taker, spot
        if number in listing.targets and self.often(0.5):
            return "put", number, 1
        return "say", number
