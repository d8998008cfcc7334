"""The rules of points 31 and 32 once more, by their words: what stands against a paper is held against this."""

RULES = ("again", "known", "over", "back", "unread", "past")


def is_spot(thing):
    return isinstance(thing, tuple) and len(thing) == 4 and isinstance(thing[1], bool)


class SlowPaper:

    def __init__(self, program, paper):
        self.rule, at, self.i, self.j = paper
        self.name, self.params, self.result, self.lets, self.rows = program[at]
        self.kinds = dict(self.params + self.lets)
        self.nums = [(name, False, (), None) for name, kind in self.kinds.items() if kind == ("num",)]

    def against(self):
        self.r = self.a = self.plain = None
        there = max(self.i, self.j) < len(self.rows)
        if not there or not getattr(self, "form_" + self.rule)(self.rows[self.i], self.rows[self.j]):
            return [("form", self.i)]
        told = {(reason, k) for k in range(len(self.rows)) for reason in ("way", "named", "changed", "lent", "read")
                if getattr(self, reason)(k, self.rows[k])}
        return sorted(told)

    # Forms: each finds r, a (the owner of a put from S) and plain (the owner that is A, if it is one)

    def through(self, thing):
        return is_spot(thing) and thing[1] is True and not isinstance(thing[3], str)

    def load(self, row):
        """("put", a, S)"""
        if row[0] != "put" or row[1] not in self.nums or not self.through(row[2]):
            return None
        self.a = row[1][0]
        self.r = row[2][0]
        return row[2]

    def store(self, row):
        """("put", S, A)"""
        if row[0] != "put" or not self.through(row[1]) or not (isinstance(row[2], int) or row[2] in self.nums):
            return None
        self.plain = row[2][0] if row[2] in self.nums else None
        self.r = row[1][0]
        return row[1]

    def form_again(self, one, other):
        held = self.load(one)
        return self.j > self.i and held is not None and other[0] == "put" and other[2] == held

    def form_known(self, one, other):
        held = self.store(one)
        return self.j > self.i and held is not None and other[0] == "put" and other[2] == held

    def form_over(self, one, other):
        if self.j <= self.i or {one[0], other[0]} - {"put", "set"} or one[1] != other[1] or not self.through(one[1]):
            return False
        self.r = one[1][0]
        used = [other[2]] if other[0] == "put" else [other[3], other[4]]
        return all(not is_spot(operand) or self.r not in (operand[0], operand[3]) for operand in used)

    def form_back(self, one, other):
        held = self.load(one)
        return self.j > self.i and held is not None and other == ("put", held, one[1])

    def form_unread(self, one, other):
        if self.i != self.j or one[0] not in ("put", "set") or one[1] not in self.nums:
            return False
        self.a = one[1][0]
        return True

    def form_past(self, one, other):
        held = self.load(one) or self.store(one)
        if held is None or self.j < self.i + 2 or self.rows[self.i + 1][0] in ("if", "go", "give"):
            return False
        return other[0] == "put" and (other[1] == held or other[2] == held)

    # Reasons

    def names(self, row):
        told = [name for thing in row[1:] if is_spot(thing) for name in (thing[0], thing[3])]
        if row[0] in ("lend", "sole", "call", "give"):
            told.append(row[1])
        if row[0] == "call":
            told.extend(row[3])
        return told

    def changes(self, row, owner):
        if owner is None:
            return False
        written = [row[1]] if row[0] in ("put", "set", "fill", "copy", "move", "drop") else []
        written += [row[2]] if row[0] == "move" else []
        return (owner, False) in [one[:2] for one in written] or row[0] == "call" and row[1] == owner

    def nexts(self, k, row):
        return {"give": set(), "go": {row[1]}, "if": {k + 1, row[-1]}}.get(row[0], {k + 1})

    def way(self, k, row):
        if self.i <= k <= self.j - 1 and self.nexts(k, row) != {k + 1}:
            return True
        return any(self.i + 1 <= n <= self.j and k != n - 1 for n in self.nexts(k, row))

    def named(self, k, row):
        if self.rule == "unread" or not self.i < k < self.j:
            return False
        if self.kinds[self.r][0] == "sole":
            return self.r in self.names(row)
        return row[0] in ("lend", "call") and row[1] == self.r

    def changed(self, k, row):
        if self.rule in ("again", "known", "back"):
            return self.i < k < self.j and (self.changes(row, self.a) or self.changes(row, self.plain))
        if self.rule != "past" or k != self.i + 1:
            return False
        return self.changes(row, self.plain) or self.a is not None and self.a in self.names(row)

    def lent(self, k, row):
        if self.rule not in ("again", "known", "back", "past") or row[0] not in ("lend", "sole"):
            return False
        return row[2][0] in [name for name in (self.a, self.plain) if name is not None] and not row[2][1]

    def read(self, k, row):
        if self.rule != "unread":
            return False
        rest = ("say",) + row[2:] if row[0] in ("put", "set") and row[1] == (self.a, False, (), None) else row
        return self.a in self.names(rest)
