"""Makes right programs that run on for long, and in which papers are often good.

What a function has is filled and lent in its first rows; the rows behind come back to a few spots. Of a tame
program each function is let by: a row that brings a claim is made anew.
"""

from lendrule.claims import claims
from program_maker import LETTERS, NUM, LendingMaker, Listing, comes_back

SHAPES = (("own",), ("strip", 2), ("rec", (NUM, NUM)), ("rec", (NUM, ("own",))), ("rec", (("strip", 3), NUM)))


class RunMaker(LendingMaker):

    def __init__(self, rng, most_rows=14, tame=True):
        super().__init__(rng, most_rows)
        self.tame = tame
        self.shapes = [NUM, rng.choice(SHAPES)]

    def head(self, name, number):
        rng = self.rng
        names = rng.sample(LETTERS, 12)
        kinds = [NUM, self.kind(), self.kind(), rng.choice(self.shapes)]
        params = tuple((one, NUM if number == 0 else rng.choice(kinds)) for one in names[:rng.randrange(3)])
        owners = tuple(zip(names[4:7], self.shapes + [NUM]))
        lets = owners + tuple((one, self.kind()) for one in names[7:rng.randrange(8, 11)])
        own = [kind for _, kind in params + lets]
        holders = tuple(one for one, kind in params if kind[0] in ("lent", "sole"))
        result = rng.choice([None] + own)
        if number == 0 or result is None:
            return name, params, None, lets
        return name, params, result + (holders,) if result[0] in ("lent", "sole") else result, lets

    def program(self):
        rng = self.rng
        heads = [self.head(name, k) for k, name in enumerate(["main", "f", "g"][:rng.randrange(1, 4)])]
        sizes = [rng.randrange(10, self.most_rows + 1) for _ in heads]
        program = tuple(head + ((self.last(head),) * size,) for head, size in zip(heads, sizes))
        for at in range(len(program)):
            program = self.with_rows(program, at)
        return program

    def last(self, head):
        return "give", self.rng.choice(comes_back(head, head[2]))

    def with_rows(self, program, at):
        listing = Listing(program, program[at])
        made = program
        for k in range(len(program[at][4]) - 1):
            for _ in range(6):
                first = self.first_row(listing, k)
                row = first or self.row_behind(listing, k)
                tried = self.with_row(made, at, k, row)
                if listing.row(row) and (not self.tame or not claims(tried, at)):
                    made = tried
                    break
            else:
                made = self.with_row(made, at, k, ("go", k + 1))
        return made

    def with_row(self, program, at, k, row):
        rows = program[at][4]
        function = program[at][:4] + (rows[:k] + (row,) + rows[k + 1:],)
        return program[:at] + (function,) + program[at + 1:]

    def first_row(self, listing, k):
        """One of the rows that fill and lend what the function's names have; None behind them."""
        rng = self.rng
        rows = [("fill", spot, rng.randrange(9)) for spot in listing.strips if not spot[1]]
        rows += [("put", spot, rng.randrange(9)) for spot in listing.targets if not spot[1] and spot[3] is None]
        for name, kind in listing.function[3]:
            if kind[0] in ("lent", "sole"):
                spots = [spot for spot in listing.owned if listing.shapes[spot] == kind[1]]
                rows.append(({"lent": "lend", "sole": "sole"}[kind[0]], name, rng.choice(spots)))
        return rows[k] if k < len(rows) else None

    def row_behind(self, listing, k):
        rng = self.rng
        size = len(listing.function[4])
        choice = rng.random()
        if choice < 0.12:
            return self.row(listing)
        if choice < 0.2:
            return self.call(listing)
        if choice < 0.26:
            jump = rng.choice([min(k + 1 + rng.randrange(4), size - 1), rng.randrange(size)])
            return rng.choice([("go", jump), ("if", self.operand(listing), self.operand(listing), jump)])
        if choice < 0.36:
            return "say", self.operand(listing)
        return self.turning_row(listing)

    def call(self, listing):
        rng = self.rng
        called = rng.choice(listing.program[1:] or listing.program)
        args = tuple(rng.choice([one for one, own in listing.kinds.items() if own == kind] or [""])
                     for _, kind in called[1])
        return "call", rng.choice(comes_back(listing.function, called[2]) or [""]), called[0], args

    def turning_row(self, listing):
        """A put or set of the kinds that papers speak of, of few spots."""
        rng = self.rng
        held = [spot for spot in listing.numbers if spot[1] and not isinstance(spot[3], str)] or listing.numbers
        spot = rng.choice(held[:2])
        nums = [(name, False, (), None) for name, kind in listing.kinds.items() if kind == NUM]
        a = rng.choice(nums[:2])
        plain = rng.choice([a, a, rng.randrange(9)])
        return rng.choice([
            ("put", a, spot), ("put", a, spot), ("put", spot, plain), ("put", spot, a), ("put", spot, a), ("say", a),
            ("put", rng.choice(listing.targets), spot), ("set", spot, "+", plain, rng.choice(held[:3])),
            ("set", a, rng.choice("+-*"), plain, rng.choice([1, spot])), ("put", a, plain), ("say", spot),
        ])
