"""The rules of points 13 to 19 once more, slowly and by their words: what the package tells is held against this.

Leaves are listed with their paths; facts are gathered in sets until no rule adds one.
"""

OWNED = ("num", "own", "strip", "rec")


def leaf_paths(shape):
    if shape[0] != "rec":
        return [((), shape)]
    return [((k,) + path, leaf) for k, one in enumerate(shape[1]) for path, leaf in leaf_paths(one)]


class Slow:

    def __init__(self, program, at):
        self.program = program
        self.name, self.params, self.result, self.lets, self.rows = program[at]
        self.kinds = dict(self.params + self.lets)
        self.acts = []
        self.begins = []
        for k, row in enumerate(self.rows):
            self.begins.append(len(self.acts))
            self.acts.extend((k,) + one for one in self.row_acts(row) or [("rest", "", False, 0, 0, "")])
        self.nexts = [self.act_nexts(n) for n in range(len(self.acts))]
        self.come = {0}
        while any(set(self.nexts[n]) - self.come for n in self.come):
            self.come |= {other for n in self.come for other in self.nexts[n]}

    # Acts

    def through(self, name):
        return self.kinds[name][0] not in OWNED

    def listed(self, name):
        return leaf_paths(self.kinds[name][1] if self.through(name) else self.kinds[name])

    def touch(self, word, name, path, taker=""):
        some = [n for n, (own, _) in enumerate(self.listed(name)) if own[:len(path)] == path]
        return (word, name, self.through(name), some[0], len(some), taker)

    def operand(self, *operands):
        told = []
        for name, _, path, at in [one for one in operands if not isinstance(one, int)]:
            told += self.place(at) + [self.touch("read", name, path)]
        return told

    def place(self, at):
        return [("read", at, False, 0, 1, "")] if isinstance(at, str) else []

    def target(self, spot):
        if spot[3] is None:
            return [self.touch("fill", spot[0], spot[2])]
        return self.place(spot[3]) + [self.touch("turn", spot[0], spot[2])]

    def owner(self, name):
        leaves = [leaf for _, leaf in self.listed(name)]
        return self.touch("empty" if ("own",) in leaves else "read", name, ())

    def arg(self, j, name):
        if not self.through(name):
            return self.owner(name)
        return self.touch({"lent": "lend", "sole": "sole"}[self.kinds[name][0]], name, (), str(j))

    def row_acts(self, row):
        word, some = row[0], row[1:]
        if word in ("put", "fill"):
            return self.operand(some[1]) + self.target(some[0])
        if word == "set":
            return self.operand(some[2], some[3]) + self.target(some[0])
        if word in ("copy", "move"):
            first = "read" if word == "copy" else "empty"
            return [self.touch(first, some[1][0], some[1][2]), self.touch("fill", some[0][0], some[0][2])]
        if word == "drop":
            return [self.touch("empty", some[0][0], some[0][2])]
        if word in ("lend", "sole"):
            return [self.touch(word, some[1][0], some[1][2], some[0])]
        if word == "call":
            told = [self.arg(j, name) for j, name in enumerate(some[2])] + [("hand", "", False, 0, 0, "")]
            if some[0] and self.through(some[0]):
                told.append(("take", "", False, 0, 0, some[0]))
            elif some[0]:
                told.append(self.touch("fill", some[0], ()))
            return told
        if word in ("if", "say"):
            return self.operand(*some[:2])
        if word == "give" and some[0]:
            return [self.touch("give", some[0], ()) if self.through(some[0]) else self.owner(some[0])]
        return []

    def row_nexts(self, k):
        row = self.rows[k]
        told = {"give": [], "go": row[1:2], "if": [k + 1, row[-1]]}.get(row[0], [k + 1])
        return tuple(sorted(set(told)))

    def act_nexts(self, n):
        row = self.acts[n][0]
        if [act[0] for act in self.acts[n:n + 2]] == [row, row]:
            return (n + 1,)
        return tuple(self.begins[k] for k in self.row_nexts(row))

    def touched(self, n):
        row, word, name, through, first, many, taker = self.acts[n]
        return {(name, leaf) for leaf in range(first, first + many)}

    def is_lending(self, n):
        return n >= 0 and self.acts[n][1] in ("lend", "sole")

    # Empties

    def first_empties(self):
        told = {(0, name, leaf) for name, _ in self.lets
                for leaf in range(1 if self.through(name) else len(self.listed(name)))}
        for n in self.come:
            if self.acts[n][1] == "empty":
                told |= {(other, name, leaf) for other in self.nexts[n] for name, leaf in self.touched(n)}
        return told

    def next_empties(self, fact):
        n, name, leaf = fact
        word, through, taker = self.acts[n][1], self.acts[n][3], self.acts[n][6]
        if taker == name or word == "fill" and not through and (name, leaf) in self.touched(n):
            return set()
        return {(other, name, leaf) for other in self.nexts[n]}

    # Needs

    def first_needs(self):
        told = set()
        for n, act in enumerate(self.acts):
            if act[3]:
                told |= {(n, name, leaf) for name, leaf in self.touched(n)}
            if act[1] == "hand":
                told |= {(n, other[6], leaf) for m, other in enumerate(self.acts)
                         if other[0] == act[0] and self.is_lending(m) for leaf in range(other[5])}
        return told

    def next_needs(self, fact):
        n, name, leaf = fact
        return {(m, name, leaf) for m, act in enumerate(self.acts) if n in self.nexts[m] and act[6] != name}

    # Held

    def first_held(self):
        told = {(0, name, leaf, -1 - i, leaf) for i, (name, _) in enumerate(self.params)
                if self.through(name) for leaf in range(len(self.listed(name)))}
        for n in self.come:
            row, word, name, through, first, many, taker = self.acts[n]
            if self.is_lending(n) and not (through and name == taker):
                told |= {(other, taker, j, n, first + j) for other in self.nexts[n] for j in range(many)}
        return told

    def is_through(self, lending, holder):
        return self.is_lending(lending) and self.acts[lending][2:4] == (holder, True)

    def next_held(self, fact):
        n, name, leaf, lending, spot = fact
        row, word, source, through, first, many, taker = self.acts[n]
        told = set()
        for other in self.nexts[n]:
            inside = name in self.kinds or self.acts[other][0] == row
            if inside and taker != name and not self.is_through(lending, taker):
                told.add((other, name, leaf, lending, spot))
            if self.is_through(lending, taker):
                continue
            if self.is_lending(n) and through and source == name and first <= leaf < first + many:
                told.add((other, taker, leaf - first, lending, spot))
            if word == "take" and name in self.sources(row):
                told |= {(other, taker, j, lending, spot) for j in range(len(self.listed(taker)))}
        return told

    def sources(self, row):
        name, params, result, lets, rows = [one for one in self.program if one[0] == self.rows[row][2]][0]
        order = [one for one, _ in params]
        return [str(order.index(one)) for one in result[2]]


def least(firsts, step):
    told = set(firsts)
    new = told
    while new:
        new = {outcome for fact in new for outcome in step(fact)} - told
        told = told | new
    return told


def faults(told, firsts, step, strict):
    """What stands against a list of facts with what each came from: nothing, where it tells the least ones."""
    facts = [fact[:-1] for fact in told]
    if len(set(facts)) < len(facts):
        return "a fact twice"
    if set(facts) != least(firsts, step):
        return "not the least facts"
    for k, fact in enumerate(told):
        came = fact[-1]
        if came == -1 and fact[:-1] not in firsts:
            return f"fact {k} is none of the first"
        if came != -1 and (not 0 <= came < k or fact[:-1] not in step(facts[came])):
            return f"fact {k} does not come of fact {came}"
        if strict and came != -1 and fact[:-1] in firsts:
            return f"fact {k} is one of the first"
    return ""
