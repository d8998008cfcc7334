"""Point 38: what the desk answers."""

import unittest

from lendrule.claims import refusals
from lendrule.desk import answer
from lendrule.errors import LendError
from lendrule.plain import played
from lendrule.reader import read
from lendrule.turner import turner

SUM = "fn main n:num\nlet s:num\nlet i:num\nput s 0\nput i 0\nset s + s i\nset i + i 1\nif i n 2\nsay s\ngive"
LATE = "fn main n:num\nlet q:lent/num\nlend q n\nput n 1\nsay q*\ngive"


class UnreadTest(unittest.TestCase):

    def test_unread(self):
        for text in ("", "give", "fn main\nsay 01\ngive", "fn main\ngive\n", "fn main  n:num\ngive", "fn main\nput 1 1\ngive"):
            for inputs in ([], [1], [1, 2, 3, 4, 5]):
                self.assertEqual(answer(text, inputs), ("unread", []))

    def test_misfit(self):
        for text in ("fn main", "fn main\nsay x\ngive", "fn main\nsay 1", "fn main -> num\nlet x:num\ngive x", "fn main\ngo 1"):
            for inputs in ([], [1], [1, 2, 3, 4, 5]):
                self.assertEqual(answer(text, inputs), ("misfit", []))

    def test_no_error_comes_out(self):
        try:
            answer("?", [])
        except LendError:
            self.fail("a refusal came out")


class RefusedTest(unittest.TestCase):

    def test_met(self):
        self.assertEqual(answer(LATE, [1]), ("refused", [("main", "met", 1, "q", (0, 1, 2))]))

    def test_empty(self):
        self.assertEqual(answer("fn main\nlet x:num\ngo 1\nsay x\ngive", []), ("refused", [("main", "empty", 1, "x", (0, 1))]))

    def test_leaves_and_face(self):
        text = ("fn main\ngive\nfn f n:num q:lent/num p:lent/num -> lent/num p\nif n 1 2\ngive q\nlend p n\ngive p")
        self.assertEqual(answer(text, []), ("refused", [("f", "face", 1, "q", (0, 1)), ("f", "leaves", 3, "p", (0, 2, 3))]))

    def test_in_their_order(self):
        text = LATE + "\nfn g n:num\nlet x:num\nlet y:num\nset n + x y\nsay y\ngive"
        word, some = answer(text, [1])
        self.assertEqual(word, "refused")
        self.assertEqual([one[:4] for one in some], [("main", "met", 1, "q"), ("g", "empty", 0, "x"), ("g", "empty", 0, "y"),
                                                     ("g", "empty", 1, "y")])
        program = read(text)
        told = refusals(program)
        self.assertEqual([one[4] for one in some], [claim[7] for _, claim in told])

    def test_the_row_of_the_act_not_the_last_of_the_way(self):
        text = "fn main n:num\nlet q:lent/num\nlend q n\nput n 1\ngo 3\ngo 4\nsay q*\ngive"
        self.assertEqual(answer(text, [1]), ("refused", [("main", "met", 1, "q", (0, 1, 2, 3, 4))]))

    def test_a_calls_own_holder(self):
        text = ("fn main n:num\nlet r:sole/num\nsole r n\ncall - f r r\ngive\nfn f a:sole/num b:sole/num\ngive")
        self.assertEqual(answer(text, [1]), ("refused", [("main", "met", 1, "0", (0, 1))]))

    def test_whatever_most(self):
        self.assertEqual(answer(LATE, [1], 0)[0], "refused")


class LetByTest(unittest.TestCase):

    def test_done(self):
        self.assertEqual(answer(SUM, [5]), ("done", [10]))
        self.assertEqual(answer("fn main\ngive", []), ("done", []))

    def test_more_and_most(self):
        self.assertEqual(answer(SUM, [5], 3), ("more", []))
        self.assertEqual(answer("fn main\nsay 1\nsay 2\ngive", [], 0), ("more", []))
        self.assertEqual(answer("fn main\nsay 1\nsay 2\ngive", [], 1), ("more", [1]))
        self.assertEqual(answer("fn main\nsay 1\nsay 2\ngive", [], most=3), ("done", [1, 2]))

    def test_most_is_400_if_nothing_is_said_of_it(self):
        text = "fn main\nsay 1\ngo 0"
        self.assertEqual(answer(text, []), ("more", [1] * 200))
        self.assertEqual(answer(text, [], 399), ("more", [1] * 200))
        self.assertEqual(answer("fn main\ngo 1\nsay 1\ngo 1", []), ("more", [1] * 200))
        self.assertEqual(answer("fn main\ngo 1\nsay 1\ngo 1", [], 399), ("more", [1] * 199))

    def test_deep(self):
        self.assertEqual(answer("fn main n:num\nsay n\ncall - main n\ngive", [3]), ("deep", [3] * 12))

    def test_lendings(self):
        text = ("fn main n:num\nlet r:sole/num\nlet a:num\nsole r n\nput r* 5\nput a r*\nput r* 6\nsay a\nsay n\ngive")
        self.assertEqual(answer(text, [1]), ("done", [5, 6]))
        program, papers = turner(read(text))
        self.assertGreater(len(papers), 1)
        self.assertEqual(answer(text, [1]), played(program, [1])[:2])

    def test_inputs(self):
        text = "fn main a:num b:num\nset a - a b\nsay a\ngive"
        self.assertEqual(answer(text, [3, 5]), ("done", [10 ** 30 - 2]))


class TellingTest(unittest.TestCase):

    def test_asked_again(self):
        inputs = [5]
        for text in (SUM, LATE, "", "fn main"):
            told = answer(text, inputs)
            kept = (told[0], list(told[1]))
            told[1].append(None)
            self.assertEqual(answer(text=text, inputs=inputs, most=400), kept)
        self.assertEqual(inputs, [5])


if __name__ == "__main__":
    unittest.main()
