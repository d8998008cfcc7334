"""Points 31 to 33, and what point 3 says of turnings, of many programs made by chance."""

import collections
import functools
import random
import unittest

from lendrule.claims import is_let_by
from lendrule.errors import Against
from lendrule.forms import is_right
from lendrule.machine import journal, run
from lendrule.papers import against, turned
from program_maker import Maker
from run_maker import RunMaker
from slow_papers import RULES, SlowPaper

SEEDS = 220
NUMBERS = (0, 1, 3, 10 ** 30 - 1)


@functools.cache
def made():
    told = []
    for seed in range(SEEDS):
        rng = random.Random(seed)
        told.append(RunMaker(rng, rng.choice([14, 20]), tame=seed % 3 > 0).program())
        if seed % 4 == 0:
            told.append(Maker(rng).program())
    return tuple(told)


def programs():
    """Each with a chance of its own."""
    return [(random.Random(k), program) for k, program in enumerate(made())]


def papers(program):
    """All papers of the program, and some of rows that are not there."""
    for at, function in enumerate(program):
        for i in range(len(function[4]) + 1):
            for j in range(len(function[4]) + 1):
                for rule in RULES:
                    yield rule, at, i, j


def count_touches(program, inputs, most):
    return sum(entry[2] in ("read", "write") for entry in journal(program, inputs, most))


class AnyPaperTest(unittest.TestCase):

    def test_against_the_slow_rules(self):
        counts = collections.Counter()
        for _, program in programs():
            for paper in papers(program):
                told = against(program, paper)
                self.assertEqual(told, SlowPaper(program, paper).against(), (program, paper))
                counts.update((paper[0], reason) for reason, _ in told or [("good", 0)])
                if told:
                    with self.assertRaises(Against) as caught:
                        turned(program, paper)
                    self.assertEqual((caught.exception.reason, caught.exception.row), told[0])
        asked = [(rule, reason) for rule in RULES for reason in ("good", "form")] + [("unread", "read")]
        asked += [(rule, reason) for rule in ("again", "known", "past") for reason in ("named", "changed", "lent", "way")]
        self.assertGreater(min(counts[one] for one in asked), 5, counts)

    def test_good_papers(self):
        counts = collections.Counter()
        for rng, program in programs():
            let_by = is_let_by(program)
            inputs = [rng.choice(NUMBERS) for _ in program[0][1]]
            for paper in papers(program):
                if against(program, paper) == []:
                    after = turned(program, paper)
                    self.assertTrue(is_right(after), (program, paper))
                    self.assertNotEqual(after, program)
                    for most in (400, rng.randrange(40)):
                        counts[run(program, inputs, most)[0]] += 1
                        self.look(program, after, paper, let_by, inputs, most)
                    counts[paper[0], let_by] += 1
                    if let_by:
                        self.assertTrue(is_let_by(after), (program, paper))
        self.assertGreater(min(counts[rule, True] for rule in RULES), 5, counts)
        self.assertGreater(min(counts[end] for end in ("done", "more", "deep", "fault")), 5, counts)

    def look(self, program, after, paper, let_by, inputs, most):
        told = run(program, inputs, most)
        later = run(after, inputs, most)
        if told[0] == "done":
            self.assertEqual(later, told, (program, paper, inputs))
            self.assertLessEqual(count_touches(after, inputs, most), count_touches(program, inputs, most))
        if let_by and paper[0] != "past":
            self.assertEqual(later, told, (program, paper, inputs))


if __name__ == "__main__":
    unittest.main()
