"""Points 31 to 33: the six rules, what stands against a paper, and what becomes of the rows."""

import unittest

from lendrule import errors
from lendrule.forms import is_right
from lendrule.papers import against, turned
from pieces import GIVE, NUM, OWN, PAIR, STRIP, lent, named, sole, spot, start, thru

A = spot("a")
B = spot("b")
R = thru("r")
Q = thru("q")
LETS = named(a=NUM, b=NUM, x=NUM, r=sole(NUM), q=lent(NUM), t=sole(PAIR), u=lent(PAIR), d=OWN)
IDLE = ("idle", (), None, (), (GIVE,))
ONE = ("one", named(n=NUM), NUM, (), (("give", "n"),))
KEEP = ("keep", named(q=lent(NUM)), ("lent", NUM, ("q",)), (), (("give", "q"),))
LEND = ("lent", named(r=sole(NUM)), None, (), (GIVE,))


class PapersCase(unittest.TestCase):

    def program(self, *rows):
        program = start(*rows, GIVE, lets=LETS, others=(IDLE, ONE, KEEP, LEND))
        self.assertTrue(is_right(program), program)
        return program

    def becomes(self, rule, i, j, rows, after):
        """Nothing stands against the paper, and the rows become these."""
        program = self.program(*rows)
        self.assertEqual(against(program, (rule, 0, i, j)), [])
        done = turned(program, (rule, 0, i, j))
        self.assertEqual(done, self.program(*after))
        self.assertEqual(program, self.program(*rows))

    def stands(self, rule, i, j, rows, *reasons):
        """Just these reasons stand against the paper, and the first of them is what it is refused with."""
        program = self.program(*rows)
        self.assertEqual(against(program, (rule, 0, i, j)), list(reasons))
        with self.assertRaises(errors.Against) as caught:
            turned(program, (rule, 0, i, j))
        self.assertEqual((caught.exception.reason, caught.exception.row), reasons[0])

    def no_form(self, rule, i, j, *rows):
        self.stands(rule, i, j, rows, ("form", i))


class AgainTest(PapersCase):

    def test_turned(self):
        self.becomes("again", 0, 1, [("put", A, R), ("put", B, R)], [("put", A, R), ("put", B, A)])
        self.becomes("again", 1, 3, [("say", 1), ("put", A, Q), ("say", Q), ("put", B, Q)],
                     [("say", 1), ("put", A, Q), ("say", Q), ("put", B, A)])

    def test_any_target(self):
        for target in (A, R, spot("d"), thru("t", 1, at="a"), thru("t", 0)):
            self.becomes("again", 0, 1, [("put", A, R), ("put", target, R)], [("put", A, R), ("put", target, A)])

    def test_parts_and_places(self):
        for held in (thru("t", 0), thru("u", 0), thru("t", 1, at=2), thru("u", 1, at=0)):
            self.becomes("again", 0, 1, [("put", A, held), ("put", B, held)], [("put", A, held), ("put", B, A)])

    def test_form(self):
        for rows in ([("put", A, R), ("put", B, Q)], [("put", A, B), ("put", B, B)], [("put", A, 1), ("put", B, 1)],
                     [("put", spot("d"), R), ("put", B, R)], [("put", thru("t", 0), R), ("put", B, R)],
                     [("set", A, "+", R, 0), ("put", B, R)], [("put", A, R), ("set", B, "+", R, 0)],
                     [("put", A, R), ("say", R)], [("copy", A, R), ("put", B, R)], [("put", A, R), ("copy", B, R)],
                     [("put", A, thru("t", 1, at="b")), ("put", B, thru("t", 1, at="b"))],
                     [("put", A, thru("t", 1, at=0)), ("put", B, thru("t", 1, at=1))],
                     [("put", A, R), ("put", R, A)]):
            with self.subTest(rows):
                self.no_form("again", 0, 1, *rows)

    def test_behind(self):
        self.no_form("again", 0, 0, ("put", A, R))
        self.no_form("again", 1, 0, ("put", B, R), ("put", A, R))

    def test_changed(self):
        for row in (("put", A, 1), ("set", A, "+", A, 1), ("copy", A, B), ("move", A, B), ("move", B, A), ("drop", A),
                    ("call", "a", "one", ("b",))):
            with self.subTest(row):
                self.stands("again", 0, 2, [("put", A, R), row, ("put", B, R)], ("changed", 1))

    def test_not_changed(self):
        for row in (("put", B, A), ("say", A), ("copy", B, A), ("call", "b", "one", ("a",)), ("if", A, B, 2),
                    ("put", thru("t", 1, at="a"), 1), ("put", thru("t", 0), 1), ("drop", B)):
            with self.subTest(row):
                rows = [("put", A, R), row, ("put", B, R)]
                self.becomes("again", 0, 2, rows, rows[:2] + [("put", B, A)])

    def test_lent(self):
        for row in (("lend", "q", A), ("sole", "r", A)):
            self.stands("again", 0, 1, [("put", A, R), ("put", B, R), row], ("lent", 2))
            self.stands("again", 1, 2, [row, ("put", A, R), ("put", B, R)], ("lent", 0))
        self.becomes("again", 0, 1, [("put", A, R), ("put", B, R), ("lend", "q", B)],
                     [("put", A, R), ("put", B, A), ("lend", "q", B)])

    def test_named_of_one_alone(self):
        for row in (("say", R), ("put", R, 1), ("put", B, R), ("set", B, "+", 1, R), ("set", B, "+", R, 1),
                    ("set", R, "+", 1, 1), ("copy", B, R), ("copy", R, B), ("move", R, B), ("lend", "q", R),
                    ("sole", "r", R), ("sole", "r", B), ("call", "", "lent", ("r",)), ("if", R, 1, 2), ("if", 1, R, 2)):
            with self.subTest(row):
                self.stands("again", 0, 2, [("put", A, R), row, ("put", B, R)], ("named", 1))

    def test_named_of_many(self):
        for row in (("lend", "q", Q), ("lend", "q", B), ("call", "q", "keep", ("q",))):
            with self.subTest(row):
                self.stands("again", 0, 2, [("put", A, Q), row, ("put", B, Q)], ("named", 1))
        for row in (("say", Q), ("put", B, Q), ("if", Q, Q, 2), ("lend", "u", thru("t")), ("sole", "r", B),
                    ("call", "", "idle", ()), ("call", "b", "one", ("b",))):
            rows = [("put", A, Q), row, ("put", B, Q)]
            self.becomes("again", 0, 2, rows, rows[:2] + [("put", B, A)])

    def test_named_in_strips(self):
        one = thru("t", 0)
        for row in (("fill", thru("t", 1), 1), ("put", thru("t", 1, at="b"), 1), ("sole", "t", thru("t")),
                    ("lend", "u", thru("t")), ("say", thru("t", 1, at=2)), ("fill", thru("t", 1), one)):
            with self.subTest(row):
                self.stands("again", 0, 2, [("put", A, one), row, ("put", B, one)], ("named", 1))

    def test_named_in_rows_i_and_j_or_beyond(self):
        rows = [("say", R), ("put", A, R), ("put", R, R), ("say", R)]
        self.becomes("again", 1, 2, rows, rows[:2] + [("put", R, A), ("say", R)])

    def test_several_reasons_are_sorted(self):
        self.stands("again", 0, 4, [("put", A, R), ("say", R), ("put", A, 1), ("if", 0, 1, 0), ("put", B, R),
                                    ("lend", "q", A)],
                    ("changed", 2), ("lent", 5), ("named", 1), ("way", 3))


class WayTest(PapersCase):

    ROWS = [("put", A, R), ("say", 1), ("put", B, R)]

    def test_out_of_the_middle(self):
        for row in (("if", 0, 1, 0), ("if", 0, 1, 3), ("go", 3), ("go", 1), GIVE):
            with self.subTest(row):
                rows = [("put", A, R), row, ("put", B, R), ("go", 4)]
                reasons = [("way", 1)]
                self.stands("again", 0, 2, rows, *reasons)

    def test_on_to_the_next(self):
        for row in (("go", 2), ("if", 0, 1, 2)):
            rows = [("put", A, R), row, ("put", B, R)]
            self.becomes("again", 0, 2, rows, rows[:2] + [("put", B, A)])

    def test_into_the_middle(self):
        for k, row in ((4, ("go", 1)), (4, ("go", 2)), (4, ("if", 0, 1, 2)), (4, ("if", 0, 1, 1))):
            self.stands("again", 0, 2, self.ROWS + [("say", 1), row], ("way", 4))

    def test_from_row_j_itself(self):
        self.stands("past", 0, 2, [("put", A, R), ("say", 1), ("put", R, 1), ("if", 0, 1, 2)], ("way", 3))

    def test_to_row_i_and_behind_row_j(self):
        rows = self.ROWS + [("if", 0, 1, 0), ("go", 3)]
        self.becomes("again", 0, 2, rows, [rows[0], rows[1], ("put", B, A)] + rows[3:])

    def test_from_ahead(self):
        self.stands("again", 2, 4, [("if", 0, 1, 3), ("go", 2)] + self.ROWS, ("way", 0))
        self.stands("again", 2, 4, [("if", 0, 1, 4), ("go", 4)] + self.ROWS, ("way", 0), ("way", 1))
        rows = [("if", 0, 1, 2), ("go", 2)] + self.ROWS
        self.becomes("again", 2, 4, rows, rows[:4] + [("put", B, A)])

    def test_of_each_rule(self):
        go = ("go", 3)
        self.stands("known", 0, 2, [("put", R, 1), go, ("put", B, R), ("go", 4)], ("way", 1))
        self.stands("over", 0, 2, [("put", R, 1), go, ("put", R, 2), ("go", 4)], ("way", 1))
        self.stands("back", 0, 2, [("put", A, R), go, ("put", R, A), ("go", 4)], ("way", 1))
        self.stands("past", 0, 3, [("put", R, 1), ("say", 1), ("if", 0, 1, 2), ("put", R, 2)], ("way", 2))


class KnownTest(PapersCase):

    def test_turned(self):
        for plain in (5, A, 0, 10 ** 30 - 1):
            self.becomes("known", 0, 2, [("put", R, plain), ("say", 1), ("put", B, R)],
                         [("put", R, plain), ("say", 1), ("put", B, plain)])

    def test_any_target(self):
        for target in (A, R, spot("d"), thru("t", 1, at="a")):
            self.becomes("known", 0, 1, [("put", R, 7), ("put", target, R)], [("put", R, 7), ("put", target, 7)])

    def test_form(self):
        for rows in ([("put", R, spot("d")), ("put", B, R)], [("put", R, Q), ("put", B, R)],
                     [("put", R, 1), ("put", B, Q)], [("put", A, 1), ("put", B, A)], [("set", R, "+", 1, 1), ("put", B, R)],
                     [("put", R, 1), ("set", B, "+", R, 0)], [("put", R, 1), ("say", R)], [("put", R, 1), ("put", R, B)],
                     [("put", thru("t", 1, at="a"), 1), ("put", B, thru("t", 1, at="a"))],
                     [("fill", thru("t", 1), 1), ("put", B, thru("t", 1, at=0))],
                     [("put", thru("t", 1, at=1), 1), ("put", B, thru("t", 1, at=2))]):
            with self.subTest(rows):
                self.no_form("known", 0, 1, *rows)
        self.no_form("known", 1, 0, ("put", B, R), ("put", R, 1))
        self.no_form("known", 0, 0, ("put", R, 1))

    def test_places(self):
        held = thru("t", 1, at=2)
        self.becomes("known", 0, 1, [("put", held, A), ("put", B, held)], [("put", held, A), ("put", B, A)])

    def test_changed(self):
        self.stands("known", 0, 2, [("put", R, A), ("put", A, 1), ("put", B, R)], ("changed", 1))
        self.stands("known", 0, 2, [("put", R, A), ("drop", A), ("put", B, R)], ("changed", 1))
        self.becomes("known", 0, 2, [("put", R, 3), ("put", A, 1), ("put", B, R)],
                     [("put", R, 3), ("put", A, 1), ("put", B, 3)])
        self.becomes("known", 0, 2, [("put", R, A), ("put", B, 1), ("put", B, R)],
                     [("put", R, A), ("put", B, 1), ("put", B, A)])

    def test_calls_and_gives_of_nothing_change_nothing(self):
        rows = [("put", R, 3), ("call", "", "idle", ()), ("put", B, R)]
        self.becomes("known", 0, 2, rows, rows[:2] + [("put", B, 3)])

    def test_lent_and_named(self):
        self.stands("known", 0, 1, [("put", R, A), ("put", B, R), ("lend", "q", A)], ("lent", 2))
        self.becomes("known", 0, 1, [("put", R, 1), ("put", B, R), ("lend", "q", A)],
                     [("put", R, 1), ("put", B, 1), ("lend", "q", A)])
        self.stands("known", 0, 2, [("put", R, A), ("say", R), ("put", B, R)], ("named", 1))


class OverTest(PapersCase):

    def test_turned(self):
        for one in (("put", R, 1), ("put", R, Q), ("set", R, "+", R, 1), ("put", R, R)):
            for other in (("put", R, 2), ("set", R, "*", A, Q), ("put", R, thru("t", 1, at="a"))):
                self.becomes("over", 1, 3, [("say", 1), one, ("say", 2), other], [("say", 1), ("go", 2), ("say", 2), other])

    def test_form(self):
        for rows in ([("put", R, 1), ("put", R, R)], [("put", R, 1), ("set", R, "+", 1, R)],
                     [("put", R, 1), ("set", R, "+", R, 1)], [("put", A, 1), ("put", A, 2)],
                     [("put", R, 1), ("put", thru("t", 0), 1)], [("put", R, 1), ("copy", R, A)],
                     [("copy", R, A), ("put", R, 1)], [("fill", thru("t", 1), 1), ("fill", thru("t", 1), 2)],
                     [("put", thru("t", 0), 1), ("put", thru("t", 0), thru("t", 1, at=0))],
                     [("put", thru("t", 1, at="a"), 1), ("put", thru("t", 1, at="a"), 2)],
                     [("put", thru("t", 1, at=0), 1), ("put", thru("t", 1, at=1), 2)]):
            with self.subTest(rows):
                self.no_form("over", 0, 1, *rows)
        self.no_form("over", 0, 0, ("put", R, 1))
        self.no_form("over", 1, 0, ("put", R, 1), ("put", R, 2))

    def test_places(self):
        held = thru("t", 1, at=2)
        self.becomes("over", 0, 1, [("put", held, 1), ("set", held, "-", 1, 1)], [("go", 1), ("set", held, "-", 1, 1)])

    def test_named(self):
        self.stands("over", 0, 2, [("put", R, 1), ("say", R), ("put", R, 2)], ("named", 1))
        self.stands("over", 0, 2, [("put", R, 1), ("lend", "q", R), ("put", R, 2)], ("named", 1))

    def test_owners_may_change_and_be_lent(self):
        rows = [("put", R, A), ("put", A, 1), ("put", R, A), ("lend", "q", A)]
        self.becomes("over", 0, 2, rows, [("go", 1)] + rows[1:])


class BackTest(PapersCase):

    def test_turned(self):
        self.becomes("back", 0, 2, [("put", A, R), ("say", A), ("put", R, A), ("say", 1)],
                     [("put", A, R), ("say", A), ("go", 3), ("say", 1)])
        held = thru("t", 1, at=0)
        self.becomes("back", 0, 1, [("put", A, held), ("put", held, A)], [("put", A, held), ("go", 2)])

    def test_form(self):
        for rows in ([("put", A, R), ("put", R, B)], [("put", A, R), ("put", thru("t", 0), A)], [("put", A, R), ("put", R, 1)],
                     [("put", A, Q), ("put", R, A)], [("put", R, A), ("put", A, R)], [("put", A, B), ("put", B, A)],
                     [("put", A, thru("t", 1, at="b")), ("put", thru("t", 1, at="b"), A)],
                     [("put", A, R), ("set", R, "+", A, 0)], [("put", A, R), ("copy", R, A)]):
            with self.subTest(rows):
                self.no_form("back", 0, 1, *rows)
        self.no_form("back", 1, 0, ("put", R, A), ("put", A, R))

    def test_reasons(self):
        self.stands("back", 0, 2, [("put", A, R), ("put", A, 1), ("put", R, A)], ("changed", 1))
        self.stands("back", 0, 2, [("put", A, R), ("put", R, 1), ("put", R, A)], ("named", 1))
        self.stands("back", 0, 1, [("put", A, R), ("put", R, A), ("sole", "r", A)], ("lent", 2))


class UnreadTest(PapersCase):

    def test_turned(self):
        for row in (("put", A, 1), ("put", A, B), ("put", A, R), ("set", A, "+", B, Q)):
            self.becomes("unread", 1, 1, [("say", 1), row, ("put", A, 2), ("set", A, "-", 1, 1)],
                         [("say", 1), ("go", 2), ("put", A, 2), ("set", A, "-", 1, 1)])

    def test_form(self):
        for row in (("put", spot("d"), 1), ("put", R, 1), ("copy", A, B), ("move", A, B), ("drop", A), ("say", A),
                    ("call", "a", "one", ("b",)), ("fill", thru("t", 1), 1), ("put", thru("t", 0), 1)):
            self.no_form("unread", 0, 0, row)
        self.no_form("unread", 0, 1, ("put", A, 1), ("put", A, 1))
        self.no_form("unread", 1, 0, ("put", A, 1), ("put", A, 1))

    def test_read(self):
        for row in (("say", A), ("put", A, A), ("set", A, "+", 1, A), ("set", A, "+", A, 1), ("put", B, A),
                    ("put", thru("t", 1, at="a"), 1), ("put", B, thru("t", 1, at="a")), ("copy", A, B), ("copy", B, A),
                    ("move", A, B), ("move", B, A), ("drop", A), ("lend", "q", A), ("sole", "r", A),
                    ("call", "a", "one", ("b",)), ("call", "b", "one", ("a",)), ("if", 1, A, 0), ("fill", thru("t", 1), A)):
            with self.subTest(row):
                self.stands("unread", 0, 0, [("put", A, 1), row], ("read", 1))
                self.stands("unread", 1, 1, [row, ("put", A, 1)], ("read", 0))

    def test_read_by_itself(self):
        self.stands("unread", 0, 0, [("set", A, "+", A, 1)], ("read", 0))
        self.stands("unread", 0, 0, [("put", A, thru("u", 1, at="a"))], ("read", 0))

    def test_no_way_stands_against_it(self):
        self.becomes("unread", 0, 0, [("put", A, 1), ("if", 0, 1, 0), ("go", 0)], [("go", 1), ("if", 0, 1, 0), ("go", 0)])

    def test_all_rows_that_read(self):
        self.stands("unread", 1, 1, [("say", A), ("put", A, A), ("say", B), ("put", B, A)],
                    ("read", 0), ("read", 1), ("read", 3))


class PastTest(PapersCase):

    def test_turned(self):
        for row in (("put", R, 1), ("put", R, A), ("put", A, R)):
            for last in (("put", R, 5), ("put", B, R), ("put", R, R)):
                for between in (("say", 1), ("put", B, 1), ("put", thru("t", 0), 1), ("call", "", "idle", ()), ("drop", B)):
                    self.becomes("past", 1, 3, [("say", 0), row, between, last], [("say", 0), between, row, last])

    def test_farther(self):
        rows = [("put", R, 1), ("say", 1), ("say", 2), ("say", 3), ("put", R, 2)]
        self.becomes("past", 0, 4, rows, [rows[1], rows[0]] + rows[2:])

    def test_of_many(self):
        rows = [("put", A, Q), ("say", Q), ("put", B, Q)]
        self.becomes("past", 0, 2, rows, [rows[1], rows[0], rows[2]])

    def test_form(self):
        for rows in ([("put", R, Q), ("say", 1), ("put", R, 1)], [("put", R, 1), ("say", 1), ("set", R, "+", 1, 1)],
                     [("put", R, 1), ("go", 2), ("put", R, 1)], [("put", R, 1), ("if", 0, 1, 2), ("put", R, 1)],
                     [("put", R, 1), GIVE, ("put", R, 1)], [("put", R, 1), ("say", 1), ("say", R)],
                     [("put", R, 1), ("say", 1), ("put", B, Q)], [("put", A, 1), ("say", 1), ("put", A, 1)],
                     [("set", R, "+", 1, 1), ("say", 1), ("put", R, 1)], [("put", A, R), ("say", 1), ("put", B, A)],
                     [("put", spot("d"), R), ("say", 1), ("put", B, R)],
                     [("put", thru("t", 1, at="a"), 1), ("say", 1), ("put", thru("t", 1, at="a"), 2)],
                     [("copy", R, A), ("say", 1), ("put", R, 1)]):
            with self.subTest(rows):
                self.no_form("past", 0, 2, *rows)
        self.no_form("past", 0, 1, ("put", R, 1), ("put", R, 2))
        self.no_form("past", 0, 0, ("put", R, 1), ("say", 1))
        self.no_form("past", 2, 0, ("put", R, 1), ("say", 1), ("put", R, 2), ("say", 1))

    def test_changed(self):
        self.stands("past", 0, 2, [("put", R, A), ("put", A, 1), ("put", R, 2)], ("changed", 1))
        self.stands("past", 0, 2, [("put", R, A), ("drop", A), ("put", R, 2)], ("changed", 1))
        rows = [("put", R, A), ("put", B, A), ("put", R, 2)]
        self.becomes("past", 0, 2, rows, [rows[1], rows[0], rows[2]])
        for row in (("put", A, 1), ("say", A), ("put", thru("t", 1, at="a"), 1), ("call", "b", "one", ("a",))):
            self.stands("past", 0, 2, [("put", A, R), row, ("put", R, 2)], ("changed", 1))

    def test_changed_further_on_does_not_stand(self):
        for row in (("put", R, A), ("put", A, R)):
            rows = [row, ("say", 1), ("put", A, 1), ("put", R, 2)]
            self.becomes("past", 0, 3, rows, [rows[1], rows[0]] + rows[2:])

    def test_lent_and_named(self):
        self.stands("past", 0, 2, [("put", R, A), ("say", 1), ("put", R, 2), ("lend", "q", A)], ("lent", 3))
        self.stands("past", 0, 2, [("put", A, R), ("say", 1), ("put", R, 2), ("lend", "q", A)], ("lent", 3))
        self.stands("past", 0, 3, [("put", R, 1), ("say", 1), ("say", R), ("put", R, 2)], ("named", 2))
        self.stands("past", 0, 2, [("put", R, 1), ("say", R), ("put", R, 2)], ("named", 1))
        self.stands("past", 0, 2, [("put", A, Q), ("lend", "q", B), ("put", B, Q)], ("named", 1))


class RowsThatAreNotThereTest(PapersCase):

    def test_form(self):
        rows = (("put", A, R), ("put", B, R), ("put", A, 1))
        for rule in ("again", "known", "over", "back", "unread", "past"):
            for i, j in ((0, 4), (4, 5), (9, 9), (4, 0), (10 ** 29, 10 ** 29), (0, 10 ** 29), (3, 4), (2, 4), (3, 3)):
                with self.subTest(rule=rule, i=i, j=j):
                    self.no_form(rule, i, j, *rows)


class FunctionsTest(PapersCase):

    def test_another_function(self):
        rows = (("put", A, R), ("put", B, R), GIVE)
        params = named(r=sole(NUM))
        one = ("f", params, None, named(a=NUM, b=NUM), rows)
        program = start(("go", 1), GIVE, others=(one, ("g",) + one[1:]))
        for at in (1, 2):
            done = turned(program, ("again", at, 0, 1))
            after = (("put", A, R), ("put", B, A), GIVE)
            self.assertEqual(done[at], program[at][:4] + (after,))
            self.assertEqual([done[k] for k in range(3) if k != at], [program[k] for k in range(3) if k != at])
        self.assertEqual(against(program, ("again", 0, 0, 1)), [("form", 0)])


    def test_gives(self):
        """A give names its N: it changes no owner and gives no holder anything."""
        lets = named(a=NUM, b=NUM, r=sole(NUM), q=lent(NUM))
        rows = (("put", A, Q), ("give", "a"), ("put", B, Q), ("put", A, 1), ("give", "b"))
        program = start(GIVE, others=(("f", (), NUM, lets, rows),))
        self.assertEqual(against(program, ("again", 1, 0, 2)), [("way", 1)])
        self.assertEqual(against(program, ("unread", 1, 3, 3)), [("read", 1)])
        for name in "rq":
            held = thru(name)
            rows = (("put", A, held), ("give", name), ("put", B, held), ("give", name))
            kind = dict(lets)[name]
            program = start(GIVE, others=(("f", (), kind + ((),), lets, rows),))
            self.assertTrue(is_right(program))
            self.assertEqual(against(program, ("again", 1, 0, 2)),
                             [("named", 1), ("way", 1)] if name == "r" else [("way", 1)])


class TellingTest(PapersCase):

    def test_against_is_none_of_the_others(self):
        with self.assertRaises(errors.Against) as caught:
            turned(self.program(("say", 1)), ("over", 0, 0, 1))
        self.assertIsInstance(caught.exception, errors.LendError)
        for name in ("NoPart", "NoName", "NoWay", "Stale", "NotSole", "NoText", "Misfit"):
            self.assertNotIsInstance(caught.exception, getattr(errors, name))

    def test_asked_again(self):
        program = self.program(("put", A, R), ("say", R), ("put", B, R))
        for paper in (("again", 0, 0, 2), ("over", 0, 0, 2), ("unread", 0, 2, 2)):
            told = against(program, paper)
            kept = list(told)
            told.append(None)
            self.assertEqual(against(program=program, paper=paper), kept)
        self.assertEqual(turned(program=program, paper=("unread", 0, 2, 2)), turned(program, ("unread", 0, 2, 2)))


if __name__ == "__main__":
    unittest.main()
