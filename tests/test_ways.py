"""Point 21: ways to acts."""

import random
import unittest

from lendrule.acts import come_to, nexts
from lendrule.errors import Against, LendError, Misfit, NoName, NoPart, NoText, NotSole, NoWay, Stale
from lendrule.ways import way_to
from pieces import GIVE, MAIN, NUM, STRIP, named, spot, work
from program_maker import LendingMaker, Maker


class WaysTest(unittest.TestCase):

    def leads(self, program, at, act):
        way = way_to(program, at, act)
        follow = nexts(program, at)
        self.assertIs(type(way), list)
        self.assertEqual((way[0], way[-1]), (0, act))
        self.assertEqual(len(set(way)), len(way))
        for one, other in zip(way, way[1:]):
            self.assertIn(other, follow[one])
        return way

    def refused(self, program, act):
        with self.assertRaises(NoWay) as caught:
            way_to(program, 1, act)
        self.assertIsInstance(caught.exception, LendError)
        self.assertNotIsInstance(caught.exception, (NoPart, NoName, Stale, NotSole, Against, NoText, Misfit))

    def test_act_0(self):
        self.assertEqual(way_to((MAIN,), 0, 0), [0])
        self.assertEqual(way_to(work(("go", 0)), 1, 0), [0])
        self.assertEqual(way_to(work(("say", 1), ("go", 0)), 1, 0), [0])

    def test_one_behind_the_other(self):
        program = work(("say", spot("s", at="n")), ("say", 1), GIVE, params=named(s=STRIP, n=NUM))
        for act in range(4):
            self.assertEqual(self.leads(program, 1, act), list(range(act + 1)))

    def test_jumps(self):
        program = work(("go", 3), ("say", 1), GIVE, ("if", 1, 2, 1), ("go", 4))
        self.assertEqual(self.leads(program, 1, 2), [0, 3, 1, 2])
        self.assertEqual(self.leads(program, 1, 4), [0, 3, 4])

    def test_round_a_loop(self):
        program = work(("say", 1), ("say", 2), ("if", 1, 2, 0), GIVE)
        self.assertEqual(self.leads(program, 1, 3), [0, 1, 2, 3])
        self.assertEqual(self.leads(program, 1, 1), [0, 1])

    def test_several_ways(self):
        program = work(("if", 1, 2, 3), ("say", 1), ("go", 4), ("say", 2), GIVE)
        self.assertIn(self.leads(program, 1, 4), ([0, 1, 2, 4], [0, 3, 4]))

    def test_never_come_to(self):
        program = work(("go", 2), ("say", spot("n")), GIVE, ("put", spot("n"), spot("n")), ("go", 1),
                       params=named(n=NUM))
        for act in (1, 3, 4, 5):
            self.refused(program, act)
        self.leads(program, 1, 2)

    def test_behind_a_give(self):
        self.refused(work(GIVE, GIVE), 1)

    def test_of_any_program(self):
        refused = 0
        for seed in range(100):
            for maker in (Maker(random.Random(seed)), LendingMaker(random.Random(seed), 20)):
                program = maker.program()
                for at in range(len(program)):
                    reached = come_to(program, at)
                    for act in range(len(nexts(program, at))):
                        if act in reached:
                            self.leads(program, at, act)
                        else:
                            self.assertRaises(NoWay, way_to, program, at, act)
                            refused += 1
        self.assertGreater(refused, 50)

    def test_asked_again(self):
        program = work(("go", 2), GIVE, ("say", 1), ("go", 1))
        told = way_to(program, 1, 3)
        kept = list(told)
        told.reverse()
        told.append(7)
        self.assertEqual(way_to(program, 1, 3), kept)


if __name__ == "__main__":
    unittest.main()
