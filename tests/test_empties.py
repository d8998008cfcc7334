"""Point 16: what may be empty ahead of each act, with what each fact came from."""

import unittest

from lendrule.empties import empties
from lendrule.forms import is_right
from pieces import DEED, GIVE, MAIN, NUM, OWN, PAIR, RICH, STRIP, lent, named, sole, spot, thru, work
from slow_rules import Slow, faults


class EmptiesTest(unittest.TestCase):

    def ahead(self, program, at=1):
        """For each act the pairs (name, leaf) told of it; each fact once, with what it came from."""
        self.assertTrue(is_right(program))
        told = empties(program, at)
        self.assertIs(type(told), list)
        slow = Slow(program, at)
        self.assertEqual(faults(told, slow.first_empties(), slow.next_empties, False), "")
        return [sorted((name, leaf) for n, name, leaf, came in told if n == act) for act in range(len(slow.acts))]

    def test_lets_are_empty_at_first(self):
        lets = named(x=NUM, s=STRIP, p=PAIR, b=RICH, h=lent(RICH), w=sole(PAIR))
        told = self.ahead(work(GIVE, lets=lets))
        self.assertEqual(told, [[("b", 0), ("b", 1), ("b", 2), ("b", 3), ("b", 4), ("h", 0), ("p", 0), ("p", 1),
                                 ("s", 0), ("w", 0), ("x", 0)]])
        self.assertEqual({fact[-1] for fact in empties(work(GIVE, lets=lets), 1)}, {-1})

    def test_params_are_not(self):
        params = named(x=NUM, p=PAIR, h=lent(RICH), w=sole(PAIR))
        self.assertEqual(self.ahead(work(("say", spot("x")), GIVE, params=params)), [[], []])
        self.assertEqual(empties((MAIN,), 0), [])

    def test_what_is_filled_is_not_empty_behind(self):
        told = self.ahead(work(("put", spot("x"), 1), ("say", spot("x")), GIVE, lets=named(x=NUM, y=NUM)))
        self.assertEqual(told, [[("x", 0), ("y", 0)], [("y", 0)], [("y", 0)]])

    def test_came(self):
        told = empties(work(("say", 1), ("say", 2), GIVE, lets=named(x=NUM)), 1)
        self.assertEqual(told, [(0, "x", 0, -1), (1, "x", 0, 0), (2, "x", 0, 1)])

    def test_only_the_leaves_that_are_filled(self):
        told = self.ahead(work(("put", spot("p", 0), 1), ("fill", spot("p", 1), 2), GIVE, lets=named(p=PAIR)))
        self.assertEqual(told, [[("p", 0), ("p", 1)], [("p", 1)], []])

    def test_all_leaves_of_a_part(self):
        program = work(("copy", spot("b", 3), spot("p")), GIVE, params=named(p=PAIR), lets=named(b=RICH))
        self.assertEqual(self.ahead(program)[2], [("b", 0), ("b", 1), ("b", 2)])

    def test_a_turn_fills_nothing(self):
        program = work(("put", spot("s", at=0), 1), GIVE, lets=named(s=STRIP))
        self.assertEqual(self.ahead(program), [[("s", 0)], [("s", 0)]])

    def test_a_read_fills_nothing(self):
        self.assertEqual(self.ahead(work(("say", spot("x")), GIVE, lets=named(x=NUM))), [[("x", 0)], [("x", 0)]])

    def test_a_fill_through_fills_no_holder(self):
        program = work(("put", thru("w"), 1), GIVE, lets=named(w=sole(NUM), x=NUM))
        self.assertEqual(self.ahead(program), [[("w", 0), ("x", 0)], [("w", 0), ("x", 0)]])

    def test_a_holder_that_is_given(self):
        program = work(("lend", "h", spot("x")), ("sole", "w", spot("x")), GIVE, params=named(x=NUM),
                       lets=named(h=lent(NUM), w=sole(NUM)))
        self.assertEqual(self.ahead(program), [[("h", 0), ("w", 0)], [("w", 0)], []])

    def test_a_holder_that_a_call_gives(self):
        pick = ("pick", named(h=lent(NUM)), lent(NUM) + (("h",),), (), (("give", "h"),))
        program = work(("call", "k", "pick", ("h",)), GIVE, params=named(h=lent(NUM)), lets=named(k=lent(NUM)),
                       others=(pick,))
        # lend, hand, take, rest
        self.assertEqual(self.ahead(program), [[("k", 0)], [("k", 0)], [("k", 0)], []])

    def test_an_owner_that_a_call_fills(self):
        make = ("make", (), DEED, named(d=DEED), (("give", "d"),))
        program = work(("call", "d", "make", ()), GIVE, lets=named(d=DEED), others=(make,))
        self.assertEqual(self.ahead(program), [[("d", 0), ("d", 1)], [("d", 0), ("d", 1)], []])

    def test_what_is_emptied(self):
        program = work(("drop", spot("d", 1)), ("drop", spot("n")), GIVE, params=named(d=DEED, n=NUM))
        self.assertEqual(self.ahead(program), [[], [("d", 1)], [("d", 1), ("n", 0)]])
        self.assertEqual(empties(program, 1)[:2], [(1, "d", 1, -1), (2, "n", 0, -1)])

    def test_what_is_moved(self):
        program = work(("move", spot("o"), spot("d", 1)), GIVE, params=named(d=DEED), lets=named(o=OWN))
        self.assertEqual(self.ahead(program), [[("o", 0)], [("d", 1), ("o", 0)], [("d", 1)]])

    def test_what_is_moved_to_itself(self):
        program = work(("move", spot("d"), spot("d")), GIVE, params=named(d=DEED))
        self.assertEqual(self.ahead(program), [[], [("d", 0), ("d", 1)], []])

    def test_args_that_are_not_copied(self):
        keep = ("keep", named(d=DEED, n=NUM), None, (), (GIVE,))
        program = work(("call", "", "keep", ("d", "n")), GIVE, params=named(d=DEED, n=NUM), others=(keep,))
        # empty, read, hand, rest
        self.assertEqual(self.ahead(program), [[], [("d", 0), ("d", 1)], [("d", 0), ("d", 1)], [("d", 0), ("d", 1)]])

    def test_emptied_and_filled_again(self):
        program = work(("drop", spot("o")), ("put", spot("o"), 1), GIVE, params=named(o=OWN))
        self.assertEqual(self.ahead(program), [[], [("o", 0)], []])

    def test_both_branches(self):
        program = work(("if", spot("n"), 2, 2), ("put", spot("x"), 1), ("say", spot("x")), GIVE,
                       params=named(n=NUM), lets=named(x=NUM))
        self.assertEqual(self.ahead(program), [[("x", 0)], [("x", 0)], [("x", 0)], [("x", 0)]])
        program = work(("if", spot("n"), 2, 3), ("put", spot("x"), 1), ("go", 4), ("put", spot("x"), 2), GIVE,
                       params=named(n=NUM), lets=named(x=NUM))
        self.assertEqual(self.ahead(program), [[("x", 0)], [("x", 0)], [], [("x", 0)], []])

    def test_round_a_loop(self):
        program = work(("say", 1), ("drop", spot("o")), ("if", 1, 2, 0), GIVE, params=named(o=OWN))
        self.assertEqual(self.ahead(program), [[("o", 0)], [("o", 0)], [("o", 0)], [("o", 0)]])

    def test_round_a_loop_to_act_0(self):
        program = work(("put", spot("x"), 1), ("drop", spot("x")), ("if", 1, 2, 0), GIVE, lets=named(x=NUM))
        self.assertEqual(self.ahead(program), [[("x", 0)], [], [("x", 0)], [("x", 0)]])

    def test_a_row_that_is_its_own_next(self):
        self.assertEqual(self.ahead(work(("go", 0), lets=named(x=NUM))), [[("x", 0)]])

    def test_only_acts_that_are_come_to_count(self):
        program = work(("go", 2), ("drop", spot("o")), ("say", spot("o")), GIVE, ("drop", spot("o")), ("go", 2),
                       params=named(o=OWN), lets=named(x=NUM))
        self.assertEqual(self.ahead(program), [[("x", 0)], [], [("x", 0)], [("x", 0)], [], []])

    def test_the_holders_of_a_call_are_never_empty(self):
        show = ("show", named(h=lent(PAIR)), None, (), (GIVE,))
        program = work(("call", "", "show", ("h",)), GIVE, lets=named(h=lent(PAIR)), others=(show,))
        self.assertEqual(self.ahead(program), [[("h", 0)], [("h", 0)], [("h", 0)]])

    def test_asked_again(self):
        program = work(("drop", spot("o")), GIVE, params=named(o=OWN), lets=named(x=NUM))
        told = empties(program, 1)
        kept = list(told)
        told.clear()
        self.assertEqual(empties(program, 1), kept)
        kept[0] = None
        self.assertNotEqual(empties(program, 1), kept)


if __name__ == "__main__":
    unittest.main()
