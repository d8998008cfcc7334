"""Points 25 to 30, and point 3 where it speaks of them, of many programs made by chance."""

import collections
import functools
import random
import unittest

from lendrule.acts import row_nexts
from lendrule.claims import claims, is_let_by
from lendrule.forms import is_right
from lendrule.machine import journal, led, run
from lendrule.plain import played
from program_maker import LendingMaker, Maker
from run_maker import RunMaker
from slow_machine import SlowMachine

SEEDS = 300
NUMBERS = (0, 1, 2, 5, 7, 10 ** 30 - 1)


@functools.cache
def made():
    told = []
    for seed in range(SEEDS):
        rng = random.Random(seed)
        told.append(RunMaker(rng, rng.choice([14, 22]), tame=seed % 3 > 0).program())
        told.append(LendingMaker(rng, rng.choice([12, 30])).program())
        told.append(Maker(rng).program())
    return tuple(told)


def programs():
    """Each with a chance of its own."""
    return [(random.Random(k), program) for k, program in enumerate(made())]


def any_inputs(rng, program):
    return [rng.choice(NUMBERS) for _ in program[0][1]]


def any_way(rng, rows, most):
    """A way without a call, if there is one."""
    way = [0]
    while len(way) < most and rows[way[-1]][0] not in ("call", "give"):
        way.append(rng.choice(row_nexts(rows, way[-1])))
    return way if rows[way[-1]][0] != "call" else way[:-1]


def has_call(rows, way):
    return any(rows[k][0] == "call" for k in way)


class RunsTest(unittest.TestCase):

    def test_against_the_slow_machine(self):
        ends = collections.Counter()
        for rng, program in programs():
            self.assertTrue(is_right(program))
            for most in (400, rng.randrange(25)):
                inputs = any_inputs(rng, program)
                kept = list(inputs)
                slow = SlowMachine(program, most)
                told = run(program, inputs, most)
                self.assertEqual(told, slow.run(inputs), (program, inputs, most))
                self.assertEqual(journal(program, inputs, most), slow.journal, (program, inputs, most))
                self.look_at_plain(program, inputs, most, told)
                self.assertEqual(inputs, kept)
                ends[told[0]] += 1
                ends.update(told[3][:1])
        self.assertGreater(min(ends[end] for end in ("done", "more", "deep", "stale", "empty")), 50, ends)

    def look_at_plain(self, program, inputs, most, told):
        end, said, count, _ = told
        plain = played(program, inputs, most)
        if end != "fault":
            self.assertEqual(plain, (end, said, count), (program, inputs, most))
        else:
            self.assertIn(plain[0], ("done", "more", "deep"))
            self.assertEqual(plain[1][:len(said)], said, (program, inputs, most))
            self.assertGreaterEqual(plain[2], count)
            # Stopped where the fault came, both have said and done the same.
            self.assertEqual(played(program, inputs, count), run(program, inputs, count)[:3])

    def test_what_is_let_by_never_faults(self):
        some = 0
        for rng, program in programs():
            if is_let_by(program):
                some += 1
                for _ in range(3):
                    self.assertNotEqual(run(program, any_inputs(rng, program))[0], "fault", program)
        self.assertGreater(some, 150)

    def test_asked_again(self):
        for rng, program in programs():
            inputs = any_inputs(rng, program)
            for ask in (run, journal, played):
                told = ask(program, inputs)
                kept = repr(told)
                for one in (told if isinstance(told, tuple) else [told]):
                    if isinstance(one, list):
                        one.append(None)
                self.assertEqual(repr(ask(program, inputs)), kept)


class ExactTest(unittest.TestCase):
    """What is claimed, and what the machine does that is led along ways without a call."""

    def test_ways(self):
        counts = collections.Counter()
        for rng, program in programs():
            for at, function in enumerate(program):
                rows = function[4]
                own = [claim for claim in claims(program, at) if claim[0] != "face"]
                for claim in own:
                    if not has_call(rows, claim[7]):
                        self.look_at_claim(program, at, claim)
                        counts[claim[0]] += 1
                for most in (5, 60):
                    way = any_way(rng, rows, most)
                    counts["way"] += self.look_at_way(program, at, way, own)
                counts["straight"] += self.look_at_straight(program, at, own)
        self.assertGreater(min(counts[kind] for kind in ("met", "empty", "leaves", "way", "straight")), 20, counts)

    def look_at_claim(self, program, at, claim):
        told = led(program, at, list(claim[7]))
        self.assertNotEqual(told[1], "", (program, at, claim))
        self.assertLess(told[0], len(claim[7]))
        self.assertEqual(told, SlowMachine(program).led(at, claim[7]))

    def look_at_way(self, program, at, way, own):
        if way == []:
            return 0
        told = led(program, at, way)
        self.assertEqual(told, SlowMachine(program).led(at, way))
        if own == []:
            self.assertEqual(told, (len(way), ""), (program, at, way))
        return own == []

    def look_at_straight(self, program, at, own):
        rows = program[at][4]
        way = list(range(len(rows)))
        if has_call(rows, way) or rows[-1][0] != "give":
            return 0
        if any(row_nexts(rows, k) != (k + 1,) for k in way[:-1]):
            return 0
        count, kind = led(program, at, way)
        self.assertEqual(count, min([claim[7][-1] for claim in own] + [len(rows)]), (program, at))
        self.assertEqual(kind != "", own != [])
        return 1


if __name__ == "__main__":
    unittest.main()
