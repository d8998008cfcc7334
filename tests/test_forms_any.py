"""Point 12's last sentence: of whatever is built as told it is told, True or False, whether it is right."""

import random
import unittest

import program_maker
from lendrule.forms import is_right

SEEDS = 250


class AnyProgramTest(unittest.TestCase):

    def test_made_programs_are_right(self):
        words = set()
        for seed in range(SEEDS):
            program = program_maker.Maker(random.Random(seed)).program()
            words.update(row[0] for function in program for row in function[4])
            self.assertTrue(program_maker.listed_right(program), seed)
            self.assertIs(is_right(program), True, seed)
        self.assertEqual(sorted(words), sorted(["put", "set", "fill", "copy", "move", "drop", "lend", "sole", "call",
                                                "if", "go", "say", "give"]))

    def test_programs_near_them(self):
        counts = {True: 0, False: 0}
        for seed in range(SEEDS):
            maker = program_maker.Maker(random.Random(seed))
            program = maker.program()
            for turn in range(40):
                near = maker.near(program)
                told = is_right(near)
                self.assertIs(told, program_maker.listed_right(near), (seed, turn))
                counts[told] += 1
        self.assertGreater(min(counts.values()), SEEDS)

    def test_programs_changed_many_times(self):
        for seed in range(SEEDS):
            maker = program_maker.Maker(random.Random(seed))
            program = maker.program()
            for _ in range(30):
                changed = maker.near(program)
                self.assertIsInstance(is_right(changed), bool)
                # A function without rows has no piece left to change.
                if all(function[4] for function in changed):
                    program = changed


if __name__ == "__main__":
    unittest.main()
