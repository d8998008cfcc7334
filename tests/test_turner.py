"""Point 34: the turner."""

import unittest

from lendrule.forms import is_right
from lendrule.papers import against, turned
from lendrule.turner import turner
from pieces import GIVE, MAIN, NUM, PAIR, lent, named, sole, spot, start, thru

A = spot("a")
B = spot("b")
R = thru("r")
RULES = ("again", "known", "over", "back", "unread")
LETS = named(a=NUM, b=NUM, x=NUM, r=sole(NUM), q=lent(NUM))


def work_of(program):
    """The puts and sets, and the operands that are spots through a holder."""
    rows = [row for function in program for row in function[4] if row[0] in ("put", "set")]
    return len(rows), sum(isinstance(one, tuple) and one[1] is True for row in rows for one in row[2:])


class TurnerCase(unittest.TestCase):

    def turned(self, program):
        """What the turner tells, looked at from all sides."""
        self.assertTrue(is_right(program), program)
        told, papers = turner(program)
        here = program
        for paper in papers:
            self.assertIn(paper[0], RULES)
            after = turned(here, paper)
            self.assertLess(sum(work_of(after)), sum(work_of(here)))
            here = after
        self.assertEqual(here, told)
        for at, function in enumerate(told):
            for i in range(len(function[4])):
                for j in range(len(function[4])):
                    for rule in RULES:
                        self.assertNotEqual(against(told, (rule, at, i, j)), [], (rule, at, i, j))
        return told, papers

    def rows(self, *rows):
        told, papers = self.turned(start(*rows, GIVE, lets=LETS))
        return list(told[0][4][:-1]), papers


class RulesTest(TurnerCase):

    def test_no_good_paper(self):
        program = start(("put", spot("x"), 1), ("sole", "r", spot("x")), ("set", R, "+", R, 1), ("say", R), GIVE, lets=LETS)
        self.assertEqual(self.turned(program), (program, []))
        self.assertEqual(self.turned((MAIN,)), ((MAIN,), []))

    def test_again(self):
        self.assertEqual(self.rows(("put", A, R), ("put", B, R), ("say", A), ("say", B)),
                         ([("put", A, R), ("put", B, A), ("say", A), ("say", B)], [("again", 0, 0, 1)]))

    def test_known(self):
        self.assertEqual(self.rows(("put", R, 5), ("put", B, R), ("say", B)),
                         ([("put", R, 5), ("put", B, 5), ("say", B)], [("known", 0, 0, 1)]))

    def test_over(self):
        self.assertEqual(self.rows(("put", R, 5), ("say", 1), ("put", R, 6)),
                         ([("go", 1), ("say", 1), ("put", R, 6)], [("over", 0, 0, 2)]))

    def test_back(self):
        self.assertEqual(self.rows(("put", A, R), ("put", R, A), ("say", A)),
                         ([("put", A, R), ("go", 2), ("say", A)], [("back", 0, 0, 1)]))

    def test_unread(self):
        self.assertEqual(self.rows(("say", 1), ("put", A, 5)), ([("say", 1), ("go", 2)], [("unread", 0, 1, 1)]))

    def test_past_is_not_taken(self):
        rows = (("put", R, 1), ("say", 1), ("say", 2), ("set", B, "+", R, 0), ("say", B), ("put", R, 2))
        program = start(*rows, GIVE, lets=LETS)
        self.assertEqual(self.turned(program), (program, []))
        program = start(("put", A, R), ("say", 1), ("put", R, B), ("say", A), ("say", R), ("put", B, 1), GIVE, lets=LETS)
        self.assertEqual(against(program, ("past", 0, 0, 2)), [])
        self.assertEqual(self.turned(program), (program, []))


class SeveralTest(TurnerCase):

    def test_one_opens_the_way_for_another(self):
        """Row 1 reads through r: only where that is turned is row 0 seen to be written over."""
        rows = (("put", R, 5), ("put", A, R), ("put", R, 6), ("say", A))
        program = start(*rows, GIVE, lets=LETS)
        self.assertEqual(against(program, ("over", 0, 0, 2)), [("named", 1)])
        self.assertEqual(self.rows(*rows), ([("go", 1), ("put", A, 5), ("put", R, 6), ("say", A)],
                                            [("known", 0, 0, 1), ("over", 0, 0, 2)]))

    def test_all_that_is_unread_goes(self):
        told, papers = self.rows(("put", A, 1), ("put", B, A), ("put", A, 2))
        self.assertEqual(told, [("go", 1), ("go", 2), ("go", 3)])
        self.assertEqual(len(papers), 3)

    def test_of_all_functions(self):
        rows = (("put", A, thru("u", 0)), ("put", B, thru("u", 0)), ("say", A), ("say", B), GIVE)
        one = ("f", named(u=lent(PAIR)), None, named(a=NUM, b=NUM), rows)
        program = start(("put", A, 1), GIVE, lets=LETS, others=(one, ("g",) + one[1:]))
        told, papers = self.turned(program)
        self.assertEqual(sorted(papers), [("again", 1, 0, 1), ("again", 2, 0, 1), ("unread", 0, 0, 0)])
        self.assertEqual(told[1][4][1], ("put", B, A))
        self.assertEqual(told[2][4][1], ("put", B, A))
        self.assertEqual(told[0][4][0], ("go", 1))

    def test_long_functions(self):
        rows = [("put", A, R), ("put", R, A), ("put", B, R), ("put", R, B), ("set", R, "+", A, 1)] * 6
        function = (named(r=sole(NUM)), None, named(a=NUM, b=NUM), tuple(rows) + (("say", A), GIVE))
        program = (MAIN,) + tuple((name,) + function for name in ("b", "c", "d", "e", "f"))
        told, papers = self.turned(program)
        self.assertGreater(len(papers), 50)


class TellingTest(TurnerCase):

    def test_asked_again(self):
        program = start(("put", A, R), ("put", B, R), ("put", R, B), ("say", A), GIVE, lets=LETS)
        told = turner(program)
        self.assertIsInstance(told, tuple)
        self.assertIsInstance(told[1], list)
        kept = list(told[1])
        told[1].append(None)
        self.assertEqual(turner(program=program), (told[0], kept))


if __name__ == "__main__":
    unittest.main()
