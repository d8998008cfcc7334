"""Points 34 to 38, and point 3 over the whole, of many programs and texts made by chance."""

import collections
import functools
import random
import unittest

from lendrule.acts import acts
from lendrule.claims import is_let_by, refusals
from lendrule.desk import answer
from lendrule.errors import Misfit, NoText
from lendrule.machine import journal, run
from lendrule.papers import against, turned
from lendrule.plain import played
from lendrule.reader import read, read_shape, read_spot
from lendrule.turner import turner
from lendrule.words import show_shape, show_spot, shown
from program_maker import LendingMaker, Maker, listed_right
from run_maker import RunMaker
from slow_papers import RULES
from slow_texts import slow_read, slow_shape, slow_spot

SEEDS = 250
SIGNS = " \n:.@*-,()[]/0123456789abcxyz+->~"
NUMBERS = (0, 1, 2, 5, 10 ** 30 - 1)


@functools.cache
def made():
    told = []
    for seed in range(SEEDS):
        rng = random.Random(seed)
        told.append(RunMaker(rng, rng.choice([14, 24]), tame=seed % 3 > 0).program())
        told.append(rng.choice([LendingMaker(rng, 12), Maker(rng)]).program())
    return tuple(told)


def programs():
    """Each with a chance of its own."""
    return [(random.Random(k), program) for k, program in enumerate(made())]


def edited(rng, text):
    """The text with one sign, word or line changed."""
    choice = rng.randrange(8)
    k = rng.randrange(len(text) + 1)
    if choice < 3:
        return text[:k] + ("" if choice == 0 else rng.choice(SIGNS)) + text[k + (choice != 1):]
    apart = "\n" if choice > 5 else " "
    pieces = (text if choice > 5 else text.replace("\n", " \n ")).split(apart)
    one, other = rng.randrange(len(pieces)), rng.randrange(len(pieces))
    if choice in (3, 6):
        pieces.pop(one)
    elif choice in (4, 7):
        pieces.insert(one, pieces[other])
    else:
        pieces[one] = pieces[other]
    return apart.join(pieces).replace(" \n ", "\n")


class TextsTest(unittest.TestCase):

    def test_written_and_read(self):
        for _, program in programs():
            text = shown(program)
            self.assertEqual(read(text), program)
            self.assertEqual(slow_read(text), program)

    def test_texts_near(self):
        counts = collections.Counter()
        for rng, program in programs():
            for _ in range(8):
                text = edited(rng, shown(program))
                if self.often(rng):
                    text = edited(rng, text)
                counts[self.look(text)] += 1
        self.assertGreater(min(counts[word] for word in ("unread", "misfit", "right")), 100, counts)

    def often(self, rng):
        return rng.random() < 0.2

    def look(self, text):
        wanted = slow_read(text)
        try:
            program = read(text)
        except NoText:
            self.assertIsNone(wanted, text)
            self.assertEqual(answer(text, [1]), ("unread", []))
            return "unread"
        except Misfit:
            self.assertIsNotNone(wanted, text)
            self.assertFalse(listed_right(wanted), text)
            self.assertEqual(answer(text, [1]), ("misfit", []))
            return "misfit"
        self.assertEqual(program, wanted, text)
        self.assertTrue(listed_right(program), text)
        self.assertEqual(shown(program), text)
        return "right"

    def test_shapes_and_spots(self):
        rng = random.Random(0)
        maker = Maker(rng)
        for _ in range(1500):
            shape = maker.shape(3)
            self.look_at(rng, shape, show_shape, read_shape, slow_shape)
            spot = (rng.choice(["a", "xyz", "abcdefgh"]), rng.random() < 0.5,
                    tuple(rng.randrange(12) for _ in range(rng.randrange(3))), rng.choice([None, 3, "i", 10 ** 30 - 1, 0]))
            self.look_at(rng, spot, show_spot, read_spot, slow_spot)

    def look_at(self, rng, thing, show, reader, slow):
        text = show(thing)
        self.assertEqual(reader(text), thing)
        text = edited(rng, text)
        try:
            told = reader(text)
        except NoText:
            told = None
        self.assertEqual(told, slow(text), text)
        if told is not None:
            self.assertEqual(show(told), text)


class TurnerTest(unittest.TestCase):

    def test_turned_to_the_end(self):
        rules = collections.Counter()
        for rng, program in programs():
            told, papers = turner(program)
            self.assertEqual(turner(program), (told, papers))
            here = program
            for paper in papers:
                self.assertIn(paper[0], RULES[:5])
                here = turned(here, paper)
            self.assertEqual(here, told)
            self.assertFalse(any(against(told, (rule, at, i, j)) == []
                                 for at, function in enumerate(told) for i in range(len(function[4]))
                                 for j in range(i, len(function[4])) for rule in RULES[:5]), program)
            self.look_at_runs(rng, program, told)
            rules.update(paper[0] for paper in papers)
        self.assertGreater(min(rules[rule] for rule in RULES[:5]), 4, rules)

    def look_at_runs(self, rng, program, told):
        let_by = is_let_by(program)
        self.assertLessEqual(let_by, is_let_by(told))
        inputs = [rng.choice(NUMBERS) for _ in program[0][1]]
        for most in (400, rng.randrange(30)):
            one = run(program, inputs, most)
            if let_by or one[0] == "done":
                self.assertEqual(run(told, inputs, most), one, program)
                self.assertEqual(played(told, inputs, most), one[:3], program)
            if one[0] == "done":
                self.assertLessEqual(*[sum(entry[2] in ("read", "write") for entry in journal(other, inputs, most))
                                       for other in (told, program)])


class DeskTest(unittest.TestCase):

    def test_answers(self):
        words = collections.Counter()
        for rng, program in programs():
            text = shown(program)
            inputs = [rng.choice(NUMBERS) for _ in program[0][1]]
            for most in (400, rng.randrange(30)):
                told = answer(text, inputs, most)
                self.assertEqual(answer(text, inputs, most), told)
                refused = [(program[at][0], claim[0], acts(program, at)[claim[1]][0], claim[2], claim[7])
                           for at, claim in refusals(program)]
                # What is let by says at the desk what the machine says: nothing that is done ahead changes it.
                self.assertEqual(told, ("refused", refused) if refused else run(program, inputs, most)[:2], program)
                words[told[0]] += 1
        self.assertGreater(min(words[word] for word in ("refused", "done", "more", "deep")), 20, words)


if __name__ == "__main__":
    unittest.main()
