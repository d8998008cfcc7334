"""The rules of points 20 to 23 once more, by their words: the way of a claim is walked act by act."""

from slow_rules import Slow, least


class SlowClaims(Slow):

    def __init__(self, program, at):
        super().__init__(program, at)
        self.empty = least(self.first_empties(), self.next_empties)
        self.held = least(self.first_held(), self.next_held)
        self.needed = least(self.first_needs(), self.next_needs)

    def lives(self):
        return [(n, tuple(sorted({fact[0] for fact in self.held if fact[3] == n and fact[:3] in self.needed})))
                for n in range(len(self.acts)) if self.is_lending(n)]

    def claims(self):
        """The first five of each claim, in order."""
        told = set()
        for n, name, leaf in self.empty:
            if self.wants(n, name, leaf):
                told.add((n, "empty", name, leaf, None))
        for n, name, leaf, lending, spot in self.held:
            if self.is_met(n, name, leaf, lending, spot):
                told.add((n, "met", name, leaf, lending))
            if self.acts[n][1:3] == ("give", name):
                if lending < 0 and self.params[-1 - lending][0] not in self.result[2]:
                    told.add((n, "face", name, leaf, lending))
                if lending >= 0 and not self.acts[lending][3]:
                    told.add((n, "leaves", name, leaf, lending))
        return [(kind, n, name, leaf, lending) for n, kind, name, leaf, lending in sorted(told)]

    def wants(self, n, name, leaf):
        if self.acts[n][3]:
            return self.acts[n][2] == name
        asks = self.acts[n][1] in ("read", "turn", "empty", "lend", "sole", "give")
        return asks and (name, leaf) in self.touched(n)

    def is_met(self, n, name, leaf, lending, spot):
        if lending < 0 or self.acts[n][3] != self.acts[lending][3]:
            return False
        if (self.acts[lending][2], spot) not in self.touched(n):
            return False
        if self.acts[n][1] not in ("fill", "turn", "empty", "sole") and self.acts[lending][1] != "sole":
            return False
        return self.acts[n][6] != name and any((other, name, leaf) in self.needed for other in self.nexts[n])

    # The way of a claim

    def steps(self, way):
        """The way's acts, each as (place, act); None where it is no way."""
        if not way or way[0] != 0 or len(way) > 40000:
            return None
        if any(other not in self.row_nexts(row) for row, other in zip(way, way[1:])):
            return None
        return [(place, n) for place, row in enumerate(way) for n, act in enumerate(self.acts) if act[0] == row]

    def comes_true(self, claim):
        kind, n, name, leaf, lending, begin, meet, way = claim
        steps = self.steps(way)
        if steps is None or (meet, n) not in steps:
            return False
        if kind != "met" and meet != len(way) - 1:
            return False
        if kind == "empty":
            return self.is_empty_along(steps, claim)
        if kind == "face" and begin != 0:
            return False
        if lending >= 0 and (begin, lending) not in steps:
            return False
        start = steps.index((begin, lending)) if lending >= 0 else -1
        here = steps.index((meet, n))
        spots = self.spots_along(steps, start, here, lending)
        if kind != "met":
            return (name, leaf) in {one[:2] for one in spots}
        if not any(self.is_met(n, name, leaf, lending, spot) for own, j, spot in spots if (own, j) == (name, leaf)):
            return False
        return self.ends_with_need(steps[here:], name, leaf, len(way) - 1)

    def spots_along(self, steps, start, here, lending):
        """What stands on the one lending made at the step start (or on a param's), ahead of the step here."""
        if start >= here:
            return set()
        ahead = start + 1
        facts = {fact for fact in self.first_held() if fact[3] == lending and fact[0] == steps[ahead][1]}
        for step in range(ahead, here):
            after = steps[step + 1][1]
            facts = {new for fact in facts for new in self.next_held(fact) if new[0] == after}
        return {(name, leaf, spot) for _, name, leaf, _, spot in facts}

    def ends_with_need(self, steps, name, leaf, last):
        for place, n in steps[1:]:
            if self.acts[n][1] == "hand" and name not in self.kinds:
                return place == last
            if self.acts[n][3] and (name, leaf) in self.touched(n):
                return place == last
            if self.acts[n][6] == name:
                return False
        return False

    def is_empty_along(self, steps, claim):
        kind, n, name, leaf, lending, begin, meet, way = claim
        here = steps.index((meet, n))
        starts = [k for k, (place, m) in enumerate(steps[:here]) if place == begin
                  and self.acts[m][1] == "empty" and (name, leaf) in self.touched(m)]
        if begin == 0 and (name, self.kinds[name]) in self.lets:
            starts.append(-1)
        return any(self.stays_empty(steps, start + 1, here, name, leaf) for start in starts)

    def stays_empty(self, steps, start, here, name, leaf):
        return all(self.next_empties((m, name, leaf)) for place, m in steps[start:here])
