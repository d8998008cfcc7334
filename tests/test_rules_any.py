"""Points 13 to 19 and "Least" of point 3, of many programs made by chance, held against the slow rules."""

import random
import unittest

from lendrule.acts import acts, come_to, nexts, row_nexts
from lendrule.empties import empties
from lendrule.forms import is_right
from lendrule.held import held
from lendrule.needs import needs
from program_maker import LendingMaker, Maker
from slow_rules import Slow, faults

SEEDS = 250


def programs():
    for seed in range(SEEDS):
        yield Maker(random.Random(seed)).program()
        yield LendingMaker(random.Random(seed), 12).program()
        if seed < SEEDS // 5:
            yield LendingMaker(random.Random(seed), 32).program()


class AnyProgramTest(unittest.TestCase):

    def test_against_the_slow_rules(self):
        words = set()
        for program in programs():
            self.assertTrue(is_right(program))
            for at in range(len(program)):
                slow = Slow(program, at)
                words.update(act[1] for act in slow.acts)
                self.look(program, at, slow)
        self.assertEqual(sorted(words), ["empty", "fill", "give", "hand", "lend", "read", "rest", "sole", "take",
                                         "turn"])

    def look(self, program, at, slow):
        rows = program[at][4]
        self.assertEqual([row_nexts(rows, k) for k in range(len(rows))], [slow.row_nexts(k) for k in range(len(rows))])
        self.assertEqual(acts(program, at), slow.acts)
        self.assertEqual(nexts(program, at), slow.nexts)
        self.assertEqual(come_to(program, at), sorted(slow.come))
        self.assertEqual(faults(empties(program, at), slow.first_empties(), slow.next_empties, False), "", program)
        self.assertEqual(faults(needs(program, at), slow.first_needs(), slow.next_needs, True), "", program)
        self.assertEqual(faults(held(program, at), slow.first_held(), slow.next_held, False), "", program)

    def test_asked_again(self):
        for seed in range(20):
            program = LendingMaker(random.Random(seed)).program()
            for ask in (acts, nexts, come_to, empties, needs, held):
                told = [ask(program, at) for at in range(len(program))]
                kept = [list(one) for one in told]
                for one in told:
                    one.append(None)
                self.assertEqual([ask(program, at) for at in range(len(program))], kept)


class MakerTest(unittest.TestCase):
    """The programs made by chance are such as bring out the rules."""

    def test_facts_of_each_rule(self):
        counts = {"lent on": 0, "of calls": 0, "taken": 0, "of params": 0, "never come to": 0}
        for program in programs():
            for at in range(len(program)):
                slow = Slow(program, at)
                told = held(program, at)
                counts["lent on"] += sum(slow.is_lending(fact[3]) and slow.acts[fact[3]][3] for fact in told)
                counts["of calls"] += sum(fact[1].isdigit() for fact in told)
                counts["taken"] += sum(slow.acts[told[fact[-1]][0]][1] == "take" and told[fact[-1]][1] != fact[1]
                                       for fact in told if fact[-1] != -1)
                counts["of params"] += sum(fact[3] < 0 for fact in told)
                counts["never come to"] += len(slow.acts) - len(slow.come)
        self.assertGreater(min(counts.values()), 50, counts)


if __name__ == "__main__":
    unittest.main()
