"""Points 20 to 24, of many programs made by chance, held against the slow rules."""

import random
import unittest

from lendrule.claims import claims, is_let_by, refusals
from lendrule.lives import lives
from program_maker import LendingMaker, Maker
from slow_claims import SlowClaims

SEEDS = 400


def programs():
    for seed in range(SEEDS):
        yield LendingMaker(random.Random(seed), 12).program()
        yield LendingMaker(random.Random(seed), 32).program()
        if seed < SEEDS // 4:
            yield Maker(random.Random(seed)).program()


class AnyProgramTest(unittest.TestCase):

    def test_against_the_slow_rules(self):
        counts = {"empty": 0, "met": 0, "leaves": 0, "face": 0, "call's own": 0, "none": 0, "some": 0}
        for program in programs():
            told = []
            for at in range(len(program)):
                told.append(self.look(program, at))
                for claim in told[-1]:
                    counts[claim[0]] += 1
                    counts["call's own"] += claim[2].isdigit()
                counts["some" if told[-1] else "none"] += 1
            self.assertIs(is_let_by(program), told == [[]] * len(program))
            self.assertEqual(refusals(program), [(at, claim) for at, some in enumerate(told) for claim in some])
        self.assertGreater(min(counts.values()), 5, counts)

    def look(self, program, at):
        slow = SlowClaims(program, at)
        self.assertEqual(lives(program, at), slow.lives())
        told = claims(program, at)
        self.assertEqual([claim[:5] for claim in told], slow.claims(), program)
        for claim in told:
            self.assertTrue(slow.comes_true(claim), (program, claim))
        return told

    def test_asked_again(self):
        for seed in range(20):
            program = LendingMaker(random.Random(seed)).program()
            for ask in (claims, lives):
                told = [ask(program, at) for at in range(len(program))]
                kept = [list(one) for one in told]
                for one in told:
                    one.append(None)
                self.assertEqual([ask(program, at) for at in range(len(program))], kept)


class WalkTest(unittest.TestCase):
    """The walk along the ways of claims sees ways that are none."""

    def test_changed_claims(self):
        counts = {"empty": 0, "met": 0, "leaves": 0, "face": 0}
        for program in programs():
            for at in range(len(program)):
                slow = SlowClaims(program, at)
                for claim in claims(program, at):
                    head, (begin, meet, way) = claim[:5], claim[5:]
                    wrong = [(begin, meet, ()), (begin, meet, way[1:]), (begin, meet, way + (99,)),
                             (begin, meet + 1, way), (begin, meet, (1,) + way), (begin, meet, way[:-1])]
                    wrong += [(begin, meet, way + (row,)) for row in slow.row_nexts(way[-1])[:1]]
                    for some in wrong:
                        self.assertFalse(slow.comes_true(head + some), (program, head, some))
                        counts[claim[0]] += 1
        self.assertGreater(min(counts.values()), 20, counts)


if __name__ == "__main__":
    unittest.main()
