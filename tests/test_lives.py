"""Point 20: the lives of lendings."""

import unittest

from lendrule.forms import is_right
from lendrule.lives import lives
from pieces import GIVE, MAIN, NUM, PAIR, lent, named, sole, spot, thru, work

LEND = ("lend", "h", spot("x"))
SAY = ("say", thru("h"))
REST = ("say", 1)


class LivesTest(unittest.TestCase):

    def tells(self, program, *expected):
        self.assertTrue(is_right(program))
        told = lives(program, 1)
        self.assertIs(type(told), list)
        self.assertEqual(told, list(expected))

    def of(self, *rows):
        return work(*rows, params=named(x=NUM, y=NUM), lets=named(h=lent(NUM), k=lent(NUM), w=sole(NUM), v=sole(NUM)))

    def test_no_lending(self):
        self.assertEqual(lives((MAIN,), 0), [])
        self.tells(work(("say", thru("r")), GIVE, params=named(r=lent(NUM))))

    def test_up_to_the_last_need(self):
        self.tells(self.of(LEND, REST, SAY, REST, SAY, REST, GIVE), (0, (1, 2, 3, 4)))

    def test_not_needed(self):
        self.tells(self.of(LEND, REST, GIVE), (0, ()))

    def test_needed_but_not_held(self):
        self.tells(self.of(REST, SAY, LEND, GIVE), (2, ()))

    def test_never_come_to(self):
        self.tells(self.of(("go", 3), LEND, SAY, GIVE), (1, ()))

    def test_given_anew(self):
        self.tells(self.of(LEND, REST, SAY, ("lend", "h", spot("y")), SAY, GIVE), (0, (1, 2)), (3, (4,)))
        self.tells(self.of(LEND, ("lend", "h", spot("y")), SAY, GIVE), (0, ()), (1, (2,)))

    def test_lent_on(self):
        self.tells(self.of(("sole", "w", spot("x")), ("sole", "v", thru("w")), REST, ("put", thru("v"), 1), GIVE),
                   (0, (1, 2, 3)), (1, (2, 3)))

    def test_lent_on_to_itself(self):
        self.tells(self.of(LEND, ("lend", "h", thru("h")), REST, SAY, GIVE), (0, (1, 2, 3)), (1, ()))

    def test_round_a_loop(self):
        self.tells(self.of(SAY, LEND, REST, ("if", 1, 2, 0), GIVE), (1, (0, 2, 3)))

    def test_from_branches(self):
        self.tells(self.of(("if", 1, 2, 3), LEND, ("go", 4), ("lend", "h", spot("y")), REST, SAY, GIVE),
                   (1, (2, 4, 5)), (3, (4, 5)))

    def test_only_the_leaves_that_are_needed(self):
        program = work(("lend", "h", spot("p")), ("lend", "k", thru("h", 0)), REST, ("say", thru("k")), GIVE,
                       params=named(p=PAIR), lets=named(h=lent(PAIR), k=lent(NUM)))
        self.tells(program, (0, (1, 2, 3)), (1, (2, 3)))

    def test_needed_leaf_that_does_not_stand_on_it(self):
        both = ("rec", (NUM, NUM))
        program = work(("if", 1, 2, 3), ("lend", "h", thru("r", 0)), ("go", 4), ("lend", "h", thru("r", 1)),
                       ("say", thru("r", 0)), GIVE, params=named(r=lent(both)), lets=named(h=lent(NUM)))
        self.tells(program, (1, ()), (3, ()))

    def test_the_holders_of_a_call(self):
        show = ("show", named(n=NUM, w=sole(NUM)), None, (), (GIVE,))
        program = work(("sole", "w", spot("x")), ("call", "", "show", ("x", "w")), GIVE, params=named(x=NUM),
                       lets=named(w=sole(NUM)), others=(show,))
        # 0 sole w; 1 read, 2 sole "1", 3 hand; 4 rest
        self.tells(program, (0, (1, 2, 3)), (2, (3,)))

    def test_behind_a_call(self):
        pick = ("pick", named(h=lent(NUM), k=lent(NUM)), lent(NUM) + (("k",),), (), (("give", "k"),))
        program = work(LEND, ("lend", "k", spot("y")), ("call", "g", "pick", ("h", "k")), REST, ("say", thru("g")), GIVE,
                       params=named(x=NUM, y=NUM), lets=named(h=lent(NUM), k=lent(NUM), g=lent(NUM)), others=(pick,))
        # 0 lend h, 1 lend k; 2 lend "0", 3 lend "1", 4 hand, 5 take; 6 rest; 7 read; 8 rest
        self.tells(program, (0, (1, 2, 3, 4)), (1, (2, 3, 4, 6, 7)), (2, (3, 4)), (3, (4, 6, 7)))

    def test_kinds(self):
        told = lives(self.of(LEND, SAY, GIVE), 1)
        self.assertIs(type(told[0]), tuple)
        self.assertIs(type(told[0][1]), tuple)

    def test_asked_again(self):
        program = self.of(LEND, SAY, GIVE)
        told = lives(program, 1)
        told.clear()
        self.assertEqual(lives(program, 1), [(0, (1,))])


if __name__ == "__main__":
    unittest.main()
