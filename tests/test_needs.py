"""Point 17: which leaves of holders are needed ahead of each act, with what each fact came from."""

import unittest

from lendrule.forms import is_right
from lendrule.needs import needs
from pieces import DEED, GIVE, MAIN, NUM, OWN, PAIR, RICH, STRIP, lent, named, sole, spot, thru, work
from slow_rules import Slow, faults

SHOW = ("show", named(k=NUM, h=lent(PAIR), w=sole(NUM)), None, (), (GIVE,))
PICK = ("pick", named(h=lent(NUM)), lent(NUM) + (("h",),), (), (("give", "h"),))


class NeedsTest(unittest.TestCase):

    def ahead(self, program, at=1):
        self.assertTrue(is_right(program))
        told = needs(program, at)
        self.assertIs(type(told), list)
        slow = Slow(program, at)
        self.assertEqual(faults(told, slow.first_needs(), slow.next_needs, True), "")
        return [sorted((name, leaf) for n, name, leaf, came in told if n == act) for act in range(len(slow.acts))]

    def test_none(self):
        self.assertEqual(needs((MAIN,), 0), [])
        program = work(("put", spot("x"), 1), ("lend", "h", spot("x")), GIVE, lets=named(x=NUM, h=lent(NUM)))
        self.assertEqual(needs(program, 1), [])

    def test_ahead_of_a_touch(self):
        program = work(("say", 1), ("say", thru("h")), ("say", 2), GIVE, params=named(h=lent(NUM)))
        self.assertEqual(self.ahead(program), [[("h", 0)], [("h", 0)], [], []])
        self.assertEqual(needs(program, 1), [(1, "h", 0, -1), (0, "h", 0, 0)])

    def test_each_touch(self):
        rows = (
            (("put", thru("w", 0), 1), [0]), (("set", thru("w", 3, 0), "+", 1, 2), [3]),
            (("put", thru("w", 2, at=1), 1), [2]), (("fill", thru("w", 3, 1), 0), [4]), (("say", thru("w", 1)), [1]),
            (("copy", spot("p"), thru("w", 3)), [3, 4]), (("copy", thru("w", 3), spot("p")), [3, 4]),
            (("move", thru("w"), spot("b")), [0, 1, 2, 3, 4]), (("lend", "h", thru("w", 3)), [3, 4]),
            (("sole", "k", thru("w", 3)), [3, 4]), (("if", thru("w", 0), thru("w", 1), 1), [0, 1]),
            (("go", 1), []), (("drop", spot("b")), []), (("sole", "w", thru("w")), [0, 1, 2, 3, 4]),
            (("sole", "w", spot("b")), []), (("lend", "h", spot("p")), []),
        )
        for row, some in rows:
            program = work(row, GIVE, params=named(w=sole(RICH), p=PAIR, b=RICH),
                           lets=named(h=lent(PAIR), k=sole(PAIR)))
            with self.subTest(row):
                self.assertEqual(self.ahead(program)[0], [("w", leaf) for leaf in some])
                self.assertEqual(self.ahead(program)[-1], [])

    def test_a_give(self):
        for kind, many in ((NUM, 1), (PAIR, 2), (RICH, 5)):
            program = work(("give", "h"), params=named(h=lent(kind)), result=lent(kind) + (("h",),))
            self.assertEqual(self.ahead(program), [[("h", leaf) for leaf in range(many)]])
        program = work(("give", "d"), params=named(d=DEED, h=lent(NUM)), result=DEED)
        self.assertEqual(self.ahead(program), [[]])

    def test_the_place_by_a_name_is_no_need(self):
        program = work(("say", thru("h", at="n")), GIVE, params=named(h=lent(STRIP), n=NUM))
        # read of n, read through h
        self.assertEqual(self.ahead(program), [[("h", 0)], [("h", 0)], []])

    def test_each_touch_is_told_without_what_it_came_from(self):
        program = work(("say", thru("h")), ("say", thru("h")), ("say", thru("h")), GIVE, params=named(h=lent(NUM)))
        self.assertEqual(sorted(needs(program, 1)), [(0, "h", 0, -1), (1, "h", 0, -1), (2, "h", 0, -1)])

    def test_not_ahead_of_who_gives_the_holder(self):
        program = work(("say", 1), ("lend", "h", spot("n")), ("say", thru("h")), GIVE, params=named(n=NUM),
                       lets=named(h=lent(NUM)))
        self.assertEqual(self.ahead(program), [[], [], [("h", 0)], []])

    def test_not_ahead_of_a_take(self):
        program = work(("call", "k", "pick", ("h",)), ("say", thru("k")), GIVE, params=named(h=lent(NUM)),
                       lets=named(k=lent(NUM)), others=(PICK,))
        # lend, hand, take, read, rest
        self.assertEqual(self.ahead(program), [[("h", 0)], [("0", 0)], [], [("k", 0)], []])

    def test_who_gives_another_holder_ends_nothing(self):
        program = work(("lend", "k", spot("n")), ("say", thru("h")), GIVE, params=named(n=NUM, h=lent(NUM)),
                       lets=named(k=lent(NUM)))
        self.assertEqual(self.ahead(program), [[("h", 0)], [("h", 0)], []])

    def test_lent_on_to_itself(self):
        program = work(("say", 1), ("lend", "h", thru("h")), ("say", thru("h")), GIVE, params=named(h=lent(NUM)))
        self.assertEqual(self.ahead(program), [[("h", 0)], [("h", 0)], [("h", 0)], []])
        self.assertIn((1, "h", 0, -1), needs(program, 1))

    def test_the_holders_of_a_call(self):
        program = work(("say", 1), ("call", "", "show", ("n", "h", "w")), GIVE,
                       params=named(n=NUM, h=lent(PAIR), w=sole(NUM)), others=(SHOW,))
        # rest; read, lend "1", sole "2", hand; rest
        self.assertEqual(self.ahead(program), [
            [("h", 0), ("h", 1), ("w", 0)], [("h", 0), ("h", 1), ("w", 0)], [("h", 0), ("h", 1), ("w", 0)],
            [("1", 0), ("1", 1), ("w", 0)], [("1", 0), ("1", 1), ("2", 0)], []])
        for fact in needs(program, 1):
            self.assertEqual(fact[-1] == -1, fact[:3] in [
                (4, "1", 0), (4, "1", 1), (4, "2", 0), (2, "h", 0), (2, "h", 1), (3, "w", 0)])

    def test_an_arg_twice(self):
        both = ("both", named(a=lent(PAIR), b=lent(PAIR)), None, (), (GIVE,))
        program = work(("call", "", "both", ("h", "h")), GIVE, params=named(h=lent(PAIR)), others=(both,))
        self.assertEqual(self.ahead(program), [
            [("h", 0), ("h", 1)], [("0", 0), ("0", 1), ("h", 0), ("h", 1)],
            [("0", 0), ("0", 1), ("1", 0), ("1", 1)], []])

    def test_a_hand_without_holders(self):
        keep = ("keep", named(o=OWN), None, (), (GIVE,))
        program = work(("call", "", "keep", ("o",)), ("call", "", "main", ()), GIVE, params=named(o=OWN),
                       others=(keep,))
        self.assertEqual(needs(program, 1), [])

    def test_two_calls_ask_for_their_own_holders(self):
        program = work(("call", "", "one", ("h",)), ("call", "", "two", ("n", "h")), GIVE,
                       params=named(n=NUM, h=lent(NUM)),
                       others=(("one", named(a=lent(NUM)), None, (), (GIVE,)),
                               ("two", named(n=NUM, a=lent(NUM)), None, (), (GIVE,))))
        # lend "0", hand; read, lend "1", hand; rest
        self.assertEqual(self.ahead(program), [
            [("h", 0)], [("0", 0), ("h", 0)], [("h", 0)], [("h", 0)], [("1", 0)], []])

    def test_branches(self):
        program = work(("if", 1, 2, 3), ("say", 1), ("go", 4), ("say", thru("h")), GIVE, params=named(h=lent(NUM)))
        self.assertEqual(self.ahead(program), [[("h", 0)], [], [], [("h", 0)], []])

    def test_round_a_loop(self):
        program = work(("say", thru("h")), ("say", 1), ("if", 1, 2, 0), GIVE, params=named(h=lent(NUM)))
        self.assertEqual(self.ahead(program), [[("h", 0)], [("h", 0)], [("h", 0)], []])

    def test_round_a_loop_for_ever(self):
        program = work(("say", 1), ("lend", "k", thru("h")), ("go", 0), params=named(h=lent(NUM)),
                       lets=named(k=lent(NUM)))
        self.assertEqual(self.ahead(program), [[("h", 0)], [("h", 0)], [("h", 0)]])

    def test_of_acts_that_are_never_come_to(self):
        program = work(GIVE, ("say", 1), ("say", thru("h")), GIVE, params=named(h=lent(NUM)))
        self.assertEqual(self.ahead(program), [[], [("h", 0)], [("h", 0)], []])

    def test_a_way_that_begins_nowhere(self):
        program = work(("go", 2), ("say", 1), ("say", thru("h")), GIVE, params=named(h=lent(NUM)))
        self.assertEqual(self.ahead(program), [[("h", 0)], [("h", 0)], [("h", 0)], []])

    def test_asked_again(self):
        program = work(("say", 1), ("say", thru("h")), GIVE, params=named(h=lent(NUM)))
        told = needs(program, 1)
        kept = list(told)
        told.reverse()
        self.assertEqual(needs(program, 1), kept)


if __name__ == "__main__":
    unittest.main()
