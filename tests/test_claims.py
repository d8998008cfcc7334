"""Points 22 to 24: what the looker claims, the ways of claims, and which programs are let by."""

import unittest

from lendrule.claims import claims, is_let_by, refusals
from lendrule.forms import is_right
from pieces import DEED, GIVE, MAIN, NUM, OWN, PAIR, RICH, STRIP, lent, named, sole, spot, thru, work
from slow_claims import SlowClaims

REST = ("say", 1)


class ClaimsTest(unittest.TestCase):

    def claimed(self, program, at=1):
        """The claims, looked through: their kinds, their order, their ways."""
        self.assertTrue(is_right(program))
        told = claims(program, at)
        self.assertIs(type(told), list)
        slow = SlowClaims(program, at)
        self.assertEqual([claim[:5] for claim in told], slow.claims())
        for claim in told:
            self.assertIs(type(claim), tuple)
            self.assertEqual(len(claim), 8)
            self.assertIs(type(claim[7]), tuple)
            self.assertTrue(slow.comes_true(claim), claim)
        return told

    def tells(self, program, *expected):
        self.assertEqual(self.claimed(program), list(expected))


class EmptyTest(ClaimsTest):

    def test_of_an_owner_from_the_first(self):
        self.tells(work(("say", spot("x")), GIVE, lets=named(x=NUM)), ("empty", 0, "x", 0, None, 0, 0, (0,)))
        self.tells(work(REST, REST, ("say", spot("x")), GIVE, lets=named(x=NUM)),
                   ("empty", 2, "x", 0, None, 0, 2, (0, 1, 2)))

    def test_of_a_param(self):
        self.tells(work(("say", spot("x")), GIVE, params=named(x=NUM)))

    def test_of_what_was_filled(self):
        self.tells(work(("put", spot("x"), 1), ("say", spot("x")), GIVE, lets=named(x=NUM)))

    def test_of_what_was_emptied(self):
        program = work(REST, ("drop", spot("d", 1)), REST, ("say", spot("d", 1)), ("say", spot("d", 0)), GIVE,
                       params=named(d=DEED))
        self.tells(program, ("empty", 3, "d", 1, None, 1, 3, (0, 1, 2, 3)))

    def test_of_what_was_emptied_in_the_first_row(self):
        self.tells(work(("drop", spot("o")), ("drop", spot("o")), GIVE, params=named(o=OWN)),
                   ("empty", 1, "o", 0, None, 0, 1, (0, 1)))

    def test_of_what_was_filled_and_emptied(self):
        program = work(("put", spot("o"), 1), ("drop", spot("o")), ("say", spot("o")), GIVE, lets=named(o=OWN))
        self.tells(program, ("empty", 2, "o", 0, None, 1, 2, (0, 1, 2)))

    def test_in_the_row_that_empties(self):
        keep = ("keep", named(a=OWN, b=OWN), None, (), (GIVE,))
        program = work(REST, ("call", "", "keep", ("o", "o")), GIVE, params=named(o=OWN), others=(keep,))
        # rest; empty, empty, hand; rest
        self.tells(program, ("empty", 2, "o", 0, None, 1, 1, (0, 1)))

    def test_acts_that_ask_for_full_leaves(self):
        rows = ((("put", spot("p", 1, at=0), 1), [1]), (("move", spot("q"), spot("p")), [0, 1]),
                (("drop", spot("p")), [0, 1]), (("lend", "h", spot("p")), [0, 1]), (("sole", "w", spot("p")), [0, 1]),
                (("copy", spot("q"), spot("p")), [0, 1]), (("say", spot("p", 1, at=2)), [1]),
                (("if", spot("p", 0), 1, 1), [0]), (("put", spot("p", 0), 1), []), (("fill", spot("p", 1), 1), []),
                (("copy", spot("p"), spot("q")), []), (("move", spot("p"), spot("q")), []), (REST, []))
        for row, some in rows:
            program = work(row, GIVE, params=named(q=PAIR), lets=named(p=PAIR, h=lent(PAIR), w=sole(PAIR)))
            with self.subTest(row):
                self.tells(program, *[("empty", 0, "p", leaf, None, 0, 0, (0,)) for leaf in some])

    def test_gives_and_args(self):
        for kind in (PAIR, DEED):
            program = work(("give", "p"), lets=named(p=kind), result=kind)
            self.tells(program, *[("empty", 0, "p", leaf, None, 0, 0, (0,)) for leaf in range(2)])
            keep = ("keep", named(p=kind), None, (), (GIVE,))
            program = work(("call", "", "keep", ("p",)), GIVE, lets=named(p=kind), others=(keep,))
            self.tells(program, *[("empty", 0, "p", leaf, None, 0, 0, (0,)) for leaf in range(2)])

    def test_only_leaves_that_may_be_empty(self):
        program = work(("put", spot("p", 0), 1), ("copy", spot("q"), spot("p")), GIVE, params=named(q=PAIR),
                       lets=named(p=PAIR))
        self.tells(program, ("empty", 1, "p", 1, None, 0, 1, (0, 1)))

    def test_through_a_holder_of_nothing(self):
        rows = (("say", thru("w", 0)), ("say", thru("w", 3, 1, at=0)), ("put", thru("w", 0), 1),
                ("put", thru("w", 3, 1, at=1), 1), ("fill", thru("w", 2), 0), ("copy", thru("w", 3), spot("p")),
                ("copy", spot("p"), thru("w", 3)), ("move", thru("w"), spot("b")), ("lend", "h", thru("w", 3)),
                ("sole", "w", thru("w")))
        for row in rows:
            program = work(row, GIVE, params=named(b=RICH, p=PAIR), lets=named(w=sole(RICH), h=lent(PAIR)))
            with self.subTest(row):
                self.assertEqual([claim[:1] + claim[2:] for claim in self.claimed(program)],
                                 [("empty", "w", 0, None, 0, 0, (0,))])

    def test_a_give_of_a_holder_of_nothing(self):
        program = work(("give", "h"), lets=named(h=lent(PAIR)), result=lent(PAIR) + ((),))
        self.tells(program, ("empty", 0, "h", 0, None, 0, 0, (0,)))

    def test_a_place_by_a_name(self):
        program = work(("say", spot("s", at="x")), GIVE, params=named(s=STRIP), lets=named(x=NUM))
        self.tells(program, ("empty", 0, "x", 0, None, 0, 0, (0,)))

    def test_by_one_branch(self):
        program = work(("if", spot("n"), 1, 2), ("put", spot("x"), 1), ("say", spot("x")), GIVE, params=named(n=NUM),
                       lets=named(x=NUM))
        # read; fill; read; rest
        self.tells(program, ("empty", 2, "x", 0, None, 0, 1, (0, 2)))

    def test_round_a_loop(self):
        program = work(("say", spot("o")), ("drop", spot("o")), ("go", 0), params=named(o=OWN))
        self.tells(program, ("empty", 0, "o", 0, None, 1, 3, (0, 1, 2, 0)),
                   ("empty", 1, "o", 0, None, 1, 4, (0, 1, 2, 0, 1)))

    def test_a_row_that_is_its_own_next(self):
        program = work(("drop", spot("o")), ("if", spot("o"), 1, 1), GIVE, params=named(o=OWN))
        self.tells(program, ("empty", 1, "o", 0, None, 0, 1, (0, 1)))
        program = work(("if", 1, 2, 0), ("say", spot("x")), GIVE, lets=named(x=NUM))
        self.tells(program, ("empty", 1, "x", 0, None, 0, 1, (0, 1)))

    def test_never_come_to(self):
        self.tells(work(GIVE, ("say", spot("x")), ("say", thru("h")), GIVE, lets=named(x=NUM, h=lent(NUM))))


class MetTest(ClaimsTest):

    def of(self, *rows):
        return work(*rows, params=named(x=NUM, y=NUM, p=PAIR, u=sole(NUM)),
                    lets=named(h=lent(NUM), k=lent(NUM), w=sole(NUM), v=sole(NUM), r=lent(PAIR)))

    def test_written_while_lent(self):
        program = self.of(("lend", "h", spot("x")), ("put", spot("x"), 1), ("say", thru("h")), GIVE)
        self.tells(program, ("met", 1, "h", 0, 0, 0, 1, (0, 1, 2)))

    def test_read_while_lent(self):
        self.tells(self.of(("lend", "h", spot("x")), ("say", spot("x")), ("say", thru("h")), GIVE))
        self.tells(self.of(("lend", "h", spot("x")), ("lend", "k", spot("x")), ("say", thru("h")), GIVE))

    def test_read_while_lent_to_one_alone(self):
        program = self.of(("sole", "w", spot("x")), REST, ("say", spot("x")), REST, ("put", thru("w"), 1), GIVE)
        self.tells(program, ("met", 2, "w", 0, 0, 0, 2, (0, 1, 2, 3, 4)))
        program = self.of(("sole", "w", spot("x")), ("lend", "h", spot("x")), ("say", thru("w")), GIVE)
        self.tells(program, ("met", 1, "w", 0, 0, 0, 1, (0, 1, 2)))

    def test_each_act_that_writes(self):
        rows = (("put", spot("p", 0), 1), ("set", spot("p", 0), "+", 1, 2), ("copy", spot("p"), spot("q")),
                ("drop", spot("p")), ("move", spot("q"), spot("p")), ("sole", "w", spot("p", 0)))
        for row in rows:
            program = work(("lend", "h", spot("p", 0)), row, ("say", thru("h")), GIVE, params=named(p=PAIR, q=PAIR),
                           lets=named(h=lent(NUM), w=sole(NUM)))
            with self.subTest(row):
                self.assertEqual([claim[:1] + claim[2:] for claim in self.claimed(program)],
                                 [("met", "h", 0, 0, 0, 1, (0, 1, 2))])

    def test_a_turn_writes(self):
        program = work(("lend", "h", spot("s")), ("put", spot("s", at=0), 1), ("say", thru("h", at=1)), GIVE,
                       params=named(s=STRIP), lets=named(h=lent(STRIP)))
        self.tells(program, ("met", 1, "h", 0, 0, 0, 1, (0, 1, 2)))

    def test_not_needed_behind(self):
        self.tells(self.of(("lend", "h", spot("x")), ("say", thru("h")), ("put", spot("x"), 1), GIVE))
        self.tells(self.of(("sole", "w", spot("x")), ("put", thru("w"), 1), ("say", spot("x")), GIVE))

    def test_given_anew_ahead_of_the_need(self):
        self.tells(self.of(("lend", "h", spot("x")), ("put", spot("x"), 1), ("lend", "h", spot("x")),
                           ("say", thru("h")), GIVE))

    def test_given_by_the_act_itself(self):
        self.tells(self.of(("sole", "w", spot("x")), ("sole", "w", spot("x")), ("put", thru("w"), 1), GIVE))

    def test_other_leaves_and_names(self):
        self.tells(self.of(("lend", "h", spot("p", 0)), ("fill", spot("p", 1), 1), ("say", thru("h")), GIVE))
        self.tells(self.of(("lend", "h", spot("x")), ("put", spot("y"), 1), ("say", thru("h")), GIVE))
        self.tells(self.of(("lend", "h", spot("p", 0)), ("copy", spot("p"), spot("p")), ("say", thru("h")), GIVE),
                   ("met", 2, "h", 0, 0, 0, 1, (0, 1, 2)))

    def test_only_leaves_that_are_needed(self):
        program = self.of(("lend", "r", spot("p")), ("copy", spot("p"), spot("p")), ("say", thru("r", 0)), GIVE)
        self.tells(program, ("met", 2, "r", 0, 0, 0, 1, (0, 1, 2)))

    def test_only_leaves_that_are_touched(self):
        program = self.of(("lend", "r", spot("p")), ("put", spot("p", 0), 1), ("say", thru("r", 1, at=0)), GIVE)
        self.tells(program)

    def test_through_a_holder(self):
        program = self.of(("lend", "h", thru("u")), ("put", thru("u"), 1), ("say", thru("h")), GIVE)
        self.tells(program, ("met", 1, "h", 0, 0, 0, 1, (0, 1, 2)))
        program = self.of(("sole", "w", thru("u")), ("say", thru("u")), ("put", thru("w"), 2), GIVE)
        self.tells(program, ("met", 1, "w", 0, 0, 0, 1, (0, 1, 2)))
        self.tells(self.of(("lend", "h", thru("u")), ("say", thru("u")), ("say", thru("h")), GIVE))

    def test_lent_on(self):
        program = self.of(REST, ("sole", "w", spot("x")), ("lend", "h", thru("w")), ("put", spot("x"), 1), REST,
                          ("say", thru("h")), GIVE)
        self.tells(program, ("met", 3, "h", 0, 1, 1, 3, (0, 1, 2, 3, 4, 5)))

    def test_several_holders_at_one_act(self):
        program = self.of(("sole", "w", spot("x")), ("sole", "v", thru("w")), ("say", spot("x")), ("put", thru("v"), 1),
                          ("put", thru("w"), 1), GIVE)
        self.tells(program, ("met", 2, "v", 0, 0, 0, 2, (0, 1, 2, 3)), ("met", 2, "w", 0, 0, 0, 2, (0, 1, 2, 3, 4)))

    def test_several_lendings_at_one_act(self):
        program = self.of(("if", spot("y"), 1, 3), ("lend", "h", spot("x")), ("go", 4), ("lend", "h", spot("x")),
                          ("put", spot("x"), 1), ("say", thru("h")), GIVE)
        # 0 read; 1 lend; 2 rest; 3 lend; 4 fill; 5 read; 6 rest
        self.tells(program, ("met", 4, "h", 0, 1, 1, 3, (0, 1, 2, 4, 5)), ("met", 4, "h", 0, 3, 1, 2, (0, 3, 4, 5)))

    def test_several_acts(self):
        program = self.of(("lend", "h", spot("x")), ("put", spot("x"), 1), ("put", spot("x"), 2), ("say", thru("h")),
                          GIVE)
        self.tells(program, ("met", 1, "h", 0, 0, 0, 1, (0, 1, 2, 3)), ("met", 2, "h", 0, 0, 0, 2, (0, 1, 2, 3)))

    def test_several_spots_make_one_claim(self):
        both = ("rec", (NUM, NUM))
        pick = ("pick", named(r=lent(both)), lent(NUM) + (("r",),), named(h=lent(NUM)), (
            ("lend", "h", thru("r", 0)), ("give", "h")))
        program = work(("lend", "r", spot("b")), ("call", "h", "pick", ("r",)), ("copy", spot("b"), spot("c")),
                       ("say", thru("h")), GIVE, params=named(b=both, c=both), lets=named(r=lent(both), h=lent(NUM)),
                       others=(pick,))
        # 0 lend; 1 lend "0", 2 hand, 3 take; 4 read, 5 fill; 6 read; 7 rest
        self.tells(program, ("met", 5, "h", 0, 0, 0, 2, (0, 1, 2, 3)))

    def test_need_at_the_same_row(self):
        program = work(("sole", "w", spot("x")), ("set", spot("y"), "+", spot("x"), thru("w")), GIVE,
                       params=named(x=NUM, y=NUM), lets=named(w=sole(NUM)))
        self.tells(program, ("met", 1, "w", 0, 0, 0, 1, (0, 1)))

    def test_need_ahead_of_the_act_in_the_same_row(self):
        program = work(("sole", "w", spot("x")), ("set", spot("y"), "+", thru("w"), spot("x")), GIVE,
                       params=named(x=NUM, y=NUM), lets=named(w=sole(NUM)))
        self.tells(program)

    def test_need_by_a_give(self):
        program = work(("lend", "h", thru("u")), ("put", thru("u"), 1), ("give", "h"), params=named(u=sole(NUM)),
                       lets=named(h=lent(NUM)), result=lent(NUM) + (("u",),))
        self.tells(program, ("met", 1, "h", 0, 0, 0, 1, (0, 1, 2)))

    def test_the_way_ends_with_the_first_need(self):
        program = self.of(("lend", "h", spot("x")), ("put", spot("x"), 1), ("say", thru("h")), ("say", thru("h")), GIVE)
        self.tells(program, ("met", 1, "h", 0, 0, 0, 1, (0, 1, 2)))

    def test_round_a_loop(self):
        program = self.of(("put", spot("x"), 1), ("lend", "h", spot("x")), ("if", 1, 2, 0), GIVE)
        self.tells(program)
        program = self.of(("lend", "h", spot("x")), ("say", thru("h")), ("put", spot("x"), 1), ("if", 1, 2, 1), GIVE)
        self.tells(program, ("met", 2, "h", 0, 0, 0, 2, (0, 1, 2, 3, 1)))

    def test_the_lending_act_itself_round_a_loop(self):
        program = work(("sole", "w", spot("x")), ("if", 1, 2, 3), ("lend", "h", thru("w")), ("if", 1, 2, 0),
                       ("say", thru("h")), GIVE, params=named(x=NUM, h=lent(NUM)), lets=named(w=sole(NUM)))
        self.tells(program, ("met", 0, "h", 0, 0, 0, 4, (0, 1, 2, 3, 0, 1, 3, 4)))

    def test_a_row_that_is_its_own_next(self):
        program = self.of(("sole", "w", spot("x")), ("if", spot("x"), thru("w"), 1), GIVE)
        # 0 sole; 1 read x, 2 read through w; 3 rest
        self.tells(program, ("met", 1, "w", 0, 0, 0, 1, (0, 1)))
        program = self.of(("sole", "w", spot("x")), ("if", thru("w"), spot("x"), 1), GIVE)
        self.tells(program, ("met", 2, "w", 0, 0, 0, 1, (0, 1, 1)))

    def test_lent_on_to_itself(self):
        program = self.of(("sole", "w", spot("x")), ("sole", "w", thru("w")), ("say", spot("x")), ("say", thru("w")), GIVE)
        self.tells(program, ("met", 2, "w", 0, 0, 0, 2, (0, 1, 2, 3)))

    def test_the_lending_of_a_param_is_not_met(self):
        self.tells(self.of(("put", thru("u"), 1), ("say", thru("u")), GIVE))

    def test_never_come_to(self):
        self.tells(self.of(GIVE, ("lend", "h", spot("x")), ("put", spot("x"), 1), ("say", thru("h")), GIVE))


class CallTest(ClaimsTest):

    two = ("two", named(a=sole(NUM), b=sole(NUM)), None, (), (GIVE,))
    mix = ("mix", named(a=lent(NUM), n=NUM, b=sole(NUM)), None, (), (GIVE,))
    pick = ("pick", named(a=sole(NUM)), sole(NUM) + (("a",),), (), (("give", "a"),))

    def test_an_arg_twice(self):
        program = work(REST, ("call", "", "two", ("u", "u")), GIVE, params=named(u=sole(NUM)), others=(self.two,))
        # 0 rest; 1 sole "0", 2 sole "1", 3 hand; 4 rest
        self.tells(program, ("met", 2, "0", 0, 1, 1, 1, (0, 1)))

    def test_two_args(self):
        program = work(("call", "", "two", ("u", "v")), GIVE, params=named(u=sole(NUM), v=sole(NUM)),
                       others=(self.two,))
        self.tells(program)

    def test_an_arg_that_was_lent_on(self):
        program = work(("sole", "w", thru("u")), ("call", "", "two", ("w", "u")), GIVE, params=named(u=sole(NUM)),
                       lets=named(w=sole(NUM)), others=(self.two,))
        # 0 sole w; 1 sole "0" through w, 2 sole "1" through u, 3 hand; 4 rest
        self.tells(program, ("met", 2, "0", 0, 0, 0, 1, (0, 1)))

    def test_an_arg_whose_lender_is_read(self):
        program = work(("sole", "w", spot("x")), ("lend", "h", spot("y")), ("call", "", "mix", ("h", "x", "w")), GIVE,
                       params=named(x=NUM, y=NUM), lets=named(h=lent(NUM), w=sole(NUM)), others=(self.mix,))
        # 0, 1; 2 lend "0", 3 read x, 4 sole "2" through w, 5 hand
        self.tells(program, ("met", 3, "w", 0, 0, 0, 2, (0, 1, 2)))

    def test_lent_args_may_be_the_same(self):
        both = ("both", named(a=lent(NUM), b=lent(NUM)), None, (), (GIVE,))
        program = work(("call", "", "both", ("h", "h")), GIVE, params=named(h=lent(NUM)), others=(both,))
        self.tells(program)

    def test_behind_a_call(self):
        program = work(("sole", "w", spot("x")), ("call", "v", "pick", ("w",)), ("say", spot("x")), ("say", thru("v")),
                       GIVE, params=named(x=NUM), lets=named(v=sole(NUM), w=sole(NUM)), others=(self.pick,))
        # 0 sole w; 1 sole "0", 2 hand, 3 take v; 4 read x; 5 read v
        self.tells(program, ("met", 4, "v", 0, 0, 0, 2, (0, 1, 2, 3)))

    def test_a_lending_of_a_call(self):
        program = work(("call", "v", "pick", ("u",)), ("say", thru("u")), ("say", thru("v")), GIVE,
                       params=named(u=sole(NUM)), lets=named(v=sole(NUM)), others=(self.pick,))
        # 0 sole "0", 1 hand, 2 take v; 3 read u; 4 read v
        self.tells(program, ("met", 3, "v", 0, 0, 0, 1, (0, 1, 2)))

    def test_a_call_without_sources(self):
        free = ("free", named(a=sole(NUM)), sole(NUM) + ((),), named(b=sole(NUM)), (("go", 0),))
        program = work(("call", "v", "free", ("u",)), ("say", thru("u")), ("say", thru("v")), GIVE,
                       params=named(u=sole(NUM)), lets=named(v=sole(NUM)), others=(free,))
        self.tells(program)

    def test_each_leaf_of_a_call(self):
        both = ("both", named(a=sole(DEED), b=sole(DEED)), None, (), (GIVE,))
        program = work(("call", "", "both", ("u", "u")), GIVE, params=named(u=sole(DEED)), others=(both,))
        self.tells(program, ("met", 1, "0", 0, 0, 0, 0, (0,)), ("met", 1, "0", 1, 0, 0, 0, (0,)))


class GiveTest(ClaimsTest):

    def test_leaves(self):
        program = work(REST, ("lend", "h", spot("x")), ("give", "h"), params=named(x=NUM), lets=named(h=lent(NUM)),
                       result=lent(NUM) + ((),))
        self.tells(program, ("leaves", 2, "h", 0, 1, 1, 2, (0, 1, 2)))

    def test_leaves_by_each_leaf_and_lending(self):
        program = work(("if", spot("n"), 1, 3), ("sole", "w", spot("p")), ("go", 4), ("sole", "w", spot("q")),
                       ("give", "w"), params=named(n=NUM, p=PAIR, q=PAIR), lets=named(w=sole(PAIR)),
                       result=sole(PAIR) + ((),))
        # 0 read; 1 sole; 2 rest; 3 sole; 4 give
        self.tells(program, ("leaves", 4, "w", 0, 1, 1, 3, (0, 1, 2, 4)), ("leaves", 4, "w", 0, 3, 1, 2, (0, 3, 4)),
                   ("leaves", 4, "w", 1, 1, 1, 3, (0, 1, 2, 4)), ("leaves", 4, "w", 1, 3, 1, 2, (0, 3, 4)))

    def test_leaves_lent_on(self):
        program = work(("sole", "w", spot("x")), ("sole", "v", thru("w")), ("give", "v"), params=named(x=NUM),
                       lets=named(v=sole(NUM), w=sole(NUM)), result=sole(NUM) + ((),))
        # The lending 1 is through w: it doesn't leave by itself.
        self.tells(program, ("leaves", 2, "v", 0, 0, 0, 2, (0, 1, 2)))

    def test_leaves_only_by_what_is_given(self):
        program = work(("lend", "h", spot("x")), ("give", "r"), params=named(x=NUM, r=lent(NUM)),
                       lets=named(h=lent(NUM)), result=lent(NUM) + (("r",),))
        self.tells(program)

    def test_face(self):
        program = work(("give", "r"), params=named(n=NUM, r=lent(PAIR)), result=lent(PAIR) + ((),))
        self.tells(program, ("face", 0, "r", 0, -2, 0, 0, (0,)), ("face", 0, "r", 1, -2, 0, 0, (0,)))

    def test_face_by_another_source(self):
        program = work(REST, ("give", "r"), params=named(q=lent(NUM), r=lent(NUM)), result=lent(NUM) + (("q",),))
        self.tells(program, ("face", 1, "r", 0, -2, 0, 1, (0, 1)))

    def test_a_source_has_no_face(self):
        for sources in (("r",), ("q", "r")):
            program = work(("give", "r"), params=named(q=lent(NUM), r=lent(NUM)), result=lent(NUM) + (sources,))
            self.tells(program)

    def test_face_lent_on(self):
        program = work(("lend", "h", thru("r")), ("give", "h"), params=named(r=lent(NUM)), lets=named(h=lent(NUM)),
                       result=lent(NUM) + ((),))
        self.tells(program, ("face", 1, "h", 0, -1, 0, 1, (0, 1)))

    def test_face_of_several_params(self):
        program = work(("if", 1, 2, 3), ("lend", "h", thru("q")), ("go", 4), ("lend", "h", thru("r")), ("give", "h"),
                       params=named(q=lent(NUM), r=lent(NUM)), lets=named(h=lent(NUM)), result=lent(NUM) + ((),))
        self.tells(program, ("face", 4, "h", 0, -2, 0, 2, (0, 3, 4)), ("face", 4, "h", 0, -1, 0, 3, (0, 1, 2, 4)))

    def test_face_behind_a_call(self):
        pick = ("pick", named(a=lent(NUM), b=lent(NUM)), lent(NUM) + (("b",),), (), (("give", "b"),))
        program = work(("call", "h", "pick", ("q", "r")), ("give", "h"), params=named(q=lent(NUM), r=lent(NUM)),
                       lets=named(h=lent(NUM)), result=lent(NUM) + (("q",),), others=(pick,))
        # lend "0", lend "1", hand, take; give
        self.tells(program, ("face", 4, "h", 0, -2, 0, 1, (0, 1)))

    def test_gives_of_owners(self):
        program = work(("lend", "h", spot("x")), ("give", "x"), params=named(x=NUM, r=lent(NUM)),
                       lets=named(h=lent(NUM)), result=NUM)
        self.tells(program)

    def test_never_come_to(self):
        program = work(("go", 0), ("lend", "h", spot("x")), ("give", "h"), ("give", "r"),
                       params=named(x=NUM, r=lent(NUM)), lets=named(h=lent(NUM)), result=lent(NUM) + ((),))
        self.tells(program)


class OrderTest(ClaimsTest):

    def test_kinds_at_the_same_act(self):
        program = work(("if", spot("n"), 1, 4), ("if", spot("n"), 2, 3), ("lend", "h", spot("n")), ("give", "h"),
                       ("lend", "h", thru("r")), ("go", 3), params=named(n=NUM, r=lent(NUM)), lets=named(h=lent(NUM)),
                       result=lent(NUM) + ((),))
        # 0 read; 1 read; 2 lend; 3 give; 4 lend; 5 rest
        self.tells(program, ("empty", 3, "h", 0, None, 0, 2, (0, 1, 3)), ("face", 3, "h", 0, -2, 0, 3, (0, 4, 5, 3)),
                   ("leaves", 3, "h", 0, 2, 2, 3, (0, 1, 2, 3)))

    def test_empty_and_met_at_the_same_act(self):
        program = work(("put", spot("o"), 1), ("lend", "h", spot("o")), ("drop", spot("o")), ("drop", spot("o")),
                       ("say", thru("h")), GIVE, lets=named(o=OWN, h=lent(OWN)))
        self.tells(program, ("met", 2, "h", 0, 1, 1, 2, (0, 1, 2, 3, 4)), ("empty", 3, "o", 0, None, 2, 3, (0, 1, 2, 3)),
                   ("met", 3, "h", 0, 1, 1, 3, (0, 1, 2, 3, 4)))

    def test_names_and_leaves_at_the_same_act(self):
        program = work(("sole", "w", spot("p")), ("sole", "a", thru("w", 0)), ("drop", spot("p")),
                       ("copy", spot("q"), thru("w")), ("say", thru("a")), GIVE, params=named(p=PAIR, q=PAIR),
                       lets=named(w=sole(PAIR), a=sole(NUM)))
        # 0 sole w, 1 sole a, 2 empty; 3 read, 4 fill; 5 read; 6
        self.tells(program, ("met", 2, "a", 0, 0, 0, 2, (0, 1, 2, 3, 4)), ("met", 2, "w", 0, 0, 0, 2, (0, 1, 2, 3)),
                   ("met", 2, "w", 1, 0, 0, 2, (0, 1, 2, 3)), ("met", 3, "a", 0, 1, 1, 3, (0, 1, 2, 3, 4)))

    def test_acts_beyond_ten(self):
        rows = [("say", spot("x"))] * 12
        program = work(*rows, GIVE, lets=named(x=NUM))
        self.assertEqual([claim[1] for claim in self.claimed(program)], list(range(12)))


class LetByTest(ClaimsTest):

    fine = ("fine", named(h=lent(NUM)), lent(NUM) + (("h",),), (), (("give", "h"),))
    wrong = ("wrong", named(h=lent(NUM)), lent(NUM) + ((),), (), (("give", "h"),))
    face = ("face", 0, "h", 0, -1, 0, 0, (0,))

    def test_let_by(self):
        for program in ((MAIN,), (MAIN, self.fine), work(("say", spot("n")), GIVE, params=named(n=NUM))):
            self.assertIs(is_let_by(program), True)
            self.assertEqual(refusals(program), [])

    def test_refused(self):
        program = work(("say", spot("x")), GIVE, lets=named(x=NUM))
        self.assertIs(is_let_by(program), False)
        self.assertEqual(refusals(program), [(1, ("empty", 0, "x", 0, None, 0, 0, (0,)))])

    def test_by_the_first_function(self):
        program = (("main", (), None, named(x=NUM), (("say", spot("x")), GIVE)), self.fine)
        self.assertIs(is_let_by(program), False)
        self.assertEqual(refusals(program), [(0, ("empty", 0, "x", 0, None, 0, 0, (0,)))])

    def test_by_functions_that_are_never_called(self):
        self.assertIs(is_let_by((MAIN, self.fine, self.wrong)), False)
        self.assertEqual(refusals((MAIN, self.fine, self.wrong)), [(2, self.face)])

    def test_in_order(self):
        program = work(("say", spot("x")), ("say", spot("x")), GIVE, lets=named(x=NUM), others=(self.wrong, self.fine))
        told = refusals(program)
        self.assertIs(type(told), list)
        self.assertEqual({type(one) for one in told}, {tuple})
        self.assertEqual(told, [(1, ("empty", 0, "x", 0, None, 0, 0, (0,))), (1, ("empty", 1, "x", 0, None, 0, 1, (0, 1))),
                                (2, self.face)])
        self.assertEqual(told, [(at, claim) for at in range(len(program)) for claim in self.claimed(program, at)])

    def test_asked_again(self):
        program = work(("say", spot("x")), GIVE, lets=named(x=NUM), others=(self.wrong,))
        for ask in (refusals, lambda one: claims(one, 1), lambda one: claims(one, 2)):
            told = ask(program)
            kept = list(told)
            told.clear()
            self.assertEqual(ask(program), kept)
            self.assertIs(is_let_by(program), False)


if __name__ == "__main__":
    unittest.main()
