"""Points 18 and 19: what may be held ahead of each act, with what each fact came from."""

import unittest

from lendrule.forms import is_right
from lendrule.held import held
from pieces import DEED, GIVE, MAIN, NUM, PAIR, RICH, STRIP, lent, named, sole, spot, thru, work
from slow_rules import Slow, faults


class HeldTest(unittest.TestCase):

    def ahead(self, program, at=1):
        """For each act the facts (name, leaf, lending, spot) told of it."""
        self.assertTrue(is_right(program))
        told = held(program, at)
        self.assertIs(type(told), list)
        slow = Slow(program, at)
        self.assertEqual(faults(told, slow.first_held(), slow.next_held, False), "")
        return [sorted(fact[1:5] for fact in told if fact[0] == act) for act in range(len(slow.acts))]


class FirstFactsTest(HeldTest):

    def test_none(self):
        self.assertEqual(held((MAIN,), 0), [])
        program = work(("put", spot("x"), 1), GIVE, params=named(n=NUM), lets=named(x=NUM, h=lent(NUM)))
        self.assertEqual(held(program, 1), [])

    def test_params(self):
        program = work(GIVE, params=named(n=NUM, h=lent(NUM), p=PAIR, w=sole(RICH)), lets=named(k=lent(NUM)))
        self.assertEqual(self.ahead(program), [[("h", 0, -2, 0)] + [("w", leaf, -4, leaf) for leaf in range(5)]])
        self.assertEqual({fact[-1] for fact in held(program, 1)}, {-1})

    def test_params_go_on(self):
        program = work(("say", thru("h")), ("say", 1), GIVE, params=named(h=lent(NUM)))
        self.assertEqual(held(program, 1), [(0, "h", 0, -1, 0, -1), (1, "h", 0, -1, 0, 0), (2, "h", 0, -1, 0, 1)])

    def test_params_round_a_loop_to_act_0(self):
        program = work(("say", 1), ("go", 0), params=named(h=lent(NUM)))
        self.assertEqual(self.ahead(program), [[("h", 0, -1, 0)], [("h", 0, -1, 0)]])


class LendingTest(HeldTest):

    def test_from_an_owner(self):
        program = work(("lend", "h", spot("x")), ("say", thru("h")), GIVE, params=named(x=NUM), lets=named(h=lent(NUM)))
        self.assertEqual(held(program, 1), [(1, "h", 0, 0, 0, -1), (2, "h", 0, 0, 0, 0)])

    def test_from_a_part(self):
        program = work(("sole", "w", spot("b", 3)), GIVE, params=named(b=RICH), lets=named(w=sole(PAIR)))
        self.assertEqual(self.ahead(program), [[], [("w", 0, 0, 3), ("w", 1, 0, 4)]])

    def test_lendings_are_named_by_acts(self):
        program = work(("put", spot("x"), spot("n")), ("lend", "h", spot("x")), ("sole", "w", spot("n")), GIVE,
                       params=named(n=NUM), lets=named(x=NUM, h=lent(NUM), w=sole(NUM)))
        self.assertEqual(self.ahead(program), [[], [], [], [("h", 0, 2, 0)], [("h", 0, 2, 0), ("w", 0, 3, 0)]])

    def test_given_anew(self):
        program = work(("lend", "h", spot("x")), ("lend", "h", spot("y")), ("say", 1), GIVE,
                       params=named(x=NUM, y=NUM), lets=named(h=lent(NUM)))
        self.assertEqual(self.ahead(program), [[], [("h", 0, 0, 0)], [("h", 0, 1, 0)], [("h", 0, 1, 0)]])

    def test_a_param_given_anew(self):
        program = work(("sole", "w", spot("x")), GIVE, params=named(x=NUM, w=sole(NUM)))
        self.assertEqual(self.ahead(program), [[("w", 0, -2, 0)], [("w", 0, 0, 0)]])

    def test_acts_of_other_kinds_end_nothing(self):
        rows = (("put", thru("w", 0), 1), ("put", spot("p", 0), 1), ("drop", spot("p")), ("say", thru("w", 0)),
                ("call", "", "main", ()), ("if", 1, 2, 3), ("put", spot("p", 1, at=0), 1), ("go", 2))
        for row in rows:
            program = work(("sole", "w", spot("p")), row, ("say", 1), GIVE, params=named(p=PAIR),
                           lets=named(w=sole(PAIR)))
            with self.subTest(row):
                for facts in self.ahead(program)[1:]:
                    self.assertEqual(facts, [("w", 0, 0, 0), ("w", 1, 0, 1)])


class LendingOnTest(HeldTest):

    def test_through_a_let(self):
        program = work(("sole", "w", spot("x")), ("lend", "h", thru("w")), GIVE, params=named(x=NUM),
                       lets=named(w=sole(NUM), h=lent(NUM)))
        self.assertEqual(self.ahead(program), [
            [], [("w", 0, 0, 0)], [("h", 0, 0, 0), ("h", 0, 1, 0), ("w", 0, 0, 0)]])
        told = {fact[:-1]: fact for fact in held(program, 1)}
        self.assertEqual(told[2, "h", 0, 1, 0][-1], -1)
        self.assertEqual(held(program, 1)[told[2, "h", 0, 0, 0][-1]][:-1], (1, "w", 0, 0, 0))

    def test_through_a_param(self):
        program = work(("lend", "h", thru("w", 3)), GIVE, params=named(n=NUM, w=sole(RICH)), lets=named(h=lent(PAIR)))
        stands = [("w", leaf, -2, leaf) for leaf in range(5)]
        self.assertEqual(self.ahead(program), [stands, [
            ("h", 0, -2, 3), ("h", 0, 0, 3), ("h", 1, -2, 4), ("h", 1, 0, 4)] + stands])

    def test_a_part_of_a_part(self):
        program = work(("sole", "w", spot("b", 3)), ("sole", "v", thru("w", 1)), GIVE, params=named(b=RICH),
                       lets=named(w=sole(PAIR), v=sole(STRIP)))
        self.assertEqual(self.ahead(program)[2], [
            ("v", 0, 0, 4), ("v", 0, 1, 1), ("w", 0, 0, 3), ("w", 1, 0, 4)])

    def test_leaves_that_are_not_lent_on(self):
        program = work(("lend", "h", thru("r", 0)), GIVE, params=named(r=lent(DEED)), lets=named(h=lent(NUM)))
        self.assertEqual(self.ahead(program)[1], [("h", 0, -1, 0), ("h", 0, 0, 0), ("r", 0, -1, 0), ("r", 1, -1, 1)])

    def test_through_a_holder_of_nothing(self):
        program = work(("lend", "h", thru("k")), GIVE, lets=named(h=lent(NUM), k=lent(NUM)))
        self.assertEqual(self.ahead(program), [[], [("h", 0, 0, 0)]])

    def test_to_the_same_holder(self):
        program = work(("lend", "h", thru("h")), ("say", thru("h")), GIVE, params=named(h=lent(NUM)))
        self.assertEqual(held(program, 1), [(0, "h", 0, -1, 0, -1), (1, "h", 0, -1, 0, 0), (2, "h", 0, -1, 0, 1)])

    def test_to_the_same_holder_that_holds_nothing(self):
        program = work(("sole", "w", thru("w")), GIVE, lets=named(w=sole(PAIR)))
        self.assertEqual(held(program, 1), [])

    def test_to_the_same_holder_by_two_steps(self):
        program = work(("sole", "v", thru("w")), ("sole", "w", thru("v")), ("say", 1), GIVE,
                       params=named(w=sole(NUM)), lets=named(v=sole(NUM)))
        # When w is given anew, what stands on a lending through w ends, v's too.
        self.assertEqual(self.ahead(program), [
            [("w", 0, -1, 0)], [("v", 0, -1, 0), ("v", 0, 0, 0), ("w", 0, -1, 0)],
            [("v", 0, -1, 0), ("w", 0, -1, 0), ("w", 0, 1, 0)], [("v", 0, -1, 0), ("w", 0, -1, 0), ("w", 0, 1, 0)]])

    def test_who_lent_is_given_anew(self):
        program = work(("lend", "h", thru("w")), ("lend", "k", thru("h")), ("sole", "w", spot("x")), GIVE,
                       params=named(x=NUM, w=sole(NUM)), lets=named(h=lent(NUM), k=lent(NUM)))
        told = self.ahead(program)
        self.assertEqual(told[2], [("h", 0, -2, 0), ("h", 0, 0, 0), ("k", 0, -2, 0), ("k", 0, 0, 0), ("k", 0, 1, 0),
                                   ("w", 0, -2, 0)])
        self.assertEqual(told[3], [("h", 0, -2, 0), ("k", 0, -2, 0), ("k", 0, 1, 0), ("w", 0, 2, 0)])

    def test_an_owner_that_lent_is_never_given(self):
        program = work(("lend", "h", spot("x")), ("lend", "k", spot("x")), ("put", spot("x"), 1), GIVE,
                       params=named(x=NUM), lets=named(h=lent(NUM), k=lent(NUM)))
        self.assertEqual(self.ahead(program)[3], [("h", 0, 0, 0), ("k", 0, 1, 0)])


class LoopTest(HeldTest):

    def test_round_a_loop(self):
        program = work(("say", 1), ("lend", "h", spot("x")), ("if", 1, 2, 0), GIVE, params=named(x=NUM),
                       lets=named(h=lent(NUM)))
        self.assertEqual(self.ahead(program), [[("h", 0, 1, 0)]] * 4)

    def test_from_branches(self):
        program = work(("if", 1, 2, 3), ("lend", "h", spot("x")), ("go", 4), ("lend", "h", spot("y")), ("say", 1),
                       GIVE, params=named(x=NUM, y=NUM), lets=named(h=lent(NUM)))
        self.assertEqual(self.ahead(program), [
            [], [], [("h", 0, 1, 0)], [], [("h", 0, 1, 0), ("h", 0, 3, 0)], [("h", 0, 1, 0), ("h", 0, 3, 0)]])

    def test_lent_on_round_a_loop(self):
        program = work(("sole", "v", thru("w")), ("sole", "w", thru("v")), ("go", 0), params=named(w=sole(NUM)),
                       lets=named(v=sole(NUM)))
        ahead = self.ahead(program)
        # 0 is through w and 1 through v: neither is held by who lent it, or behind who lent it is given anew.
        self.assertEqual(ahead[0], [("v", 0, -1, 0), ("w", 0, -1, 0), ("w", 0, 1, 0)])
        self.assertEqual(ahead[1], [("v", 0, -1, 0), ("v", 0, 0, 0), ("w", 0, -1, 0)])

    def test_all_spots_round_a_loop(self):
        both = ("rec", (NUM, NUM))
        program = work(("lend", "h", thru("r", 0)), ("if", 1, 2, 3), ("lend", "h", thru("r", 1)), ("lend", "k", thru("h")),
                       ("go", 0), params=named(r=lent(both)), lets=named(h=lent(NUM), k=lent(NUM)))
        self.assertEqual(self.ahead(program)[4], [
            ("h", 0, -1, 0), ("h", 0, -1, 1), ("h", 0, 0, 0), ("h", 0, 2, 1),
            ("k", 0, -1, 0), ("k", 0, -1, 1), ("k", 0, 0, 0), ("k", 0, 2, 1), ("k", 0, 3, 0),
            ("r", 0, -1, 0), ("r", 1, -1, 1)])

    def test_only_acts_that_are_come_to_count(self):
        program = work(("go", 2), ("lend", "h", spot("x")), ("say", 1), GIVE, ("lend", "h", spot("x")), ("go", 2),
                       params=named(x=NUM, r=lent(NUM)), lets=named(h=lent(NUM)))
        self.assertEqual(self.ahead(program), [[("r", 0, -2, 0)], [], [("r", 0, -2, 0)], [("r", 0, -2, 0)], [], []])


class CallTest(HeldTest):

    first = ("first", named(a=lent(NUM), n=NUM, b=lent(NUM)), lent(NUM) + (("a",),), (), (("give", "a"),))
    both = ("both", named(a=lent(NUM), n=NUM, b=lent(NUM)), lent(NUM) + (("a", "b"),), (), (("give", "a"),))
    last = ("last", named(a=lent(NUM), n=NUM, b=lent(NUM)), lent(NUM) + (("b",),), (), (("give", "b"),))
    none = ("none", named(a=lent(NUM), n=NUM, b=lent(NUM)), lent(NUM) + ((),), (), (("give", "a"),))

    def calling(self, name, taker="k", args=("g", "n", "h")):
        return work(("call", taker, name, args), GIVE, params=named(g=lent(NUM), n=NUM, h=lent(NUM)),
                    lets=named(k=lent(NUM)), others=(self.first, self.both, self.last, self.none))

    def test_the_holders_of_a_call(self):
        # lend "0", read, lend "2", hand, take, rest
        stands = [("g", 0, -1, 0), ("h", 0, -3, 0)]
        zero = [("0", 0, -1, 0), ("0", 0, 0, 0)]
        two = [("2", 0, -3, 0), ("2", 0, 2, 0)]
        self.assertEqual(self.ahead(self.calling("none")), [
            stands, zero + stands, zero + stands, zero + two + stands, zero + two + stands, stands])

    def test_taken_from_sources(self):
        stands = [("g", 0, -1, 0), ("h", 0, -3, 0)]
        zero = [("k", 0, -1, 0), ("k", 0, 0, 0)]
        two = [("k", 0, -3, 0), ("k", 0, 2, 0)]
        self.assertEqual(self.ahead(self.calling("first"))[5], stands + zero)
        self.assertEqual(self.ahead(self.calling("last"))[5], stands + two)
        self.assertEqual(self.ahead(self.calling("both"))[5], sorted(stands + zero + two))
        self.assertEqual(self.ahead(self.calling("none"))[5], stands)

    def test_taken_by_who_was_an_arg(self):
        # Lendings through g are not held by g itself.
        self.assertEqual(self.ahead(self.calling("both", "g"))[5], [
            ("g", 0, -3, 0), ("g", 0, -1, 0), ("g", 0, 2, 0), ("h", 0, -3, 0)])
        self.assertEqual(self.ahead(self.calling("last", "g"))[5], [
            ("g", 0, -3, 0), ("g", 0, 2, 0), ("h", 0, -3, 0)])
        self.assertEqual(self.ahead(self.calling("none", "g"))[5], [("h", 0, -3, 0)])

    def test_args_twice(self):
        self.assertEqual(self.ahead(self.calling("both", "k", ("g", "n", "g")))[5], [
            ("g", 0, -1, 0), ("h", 0, -3, 0), ("k", 0, -1, 0), ("k", 0, 0, 0), ("k", 0, 2, 0)])

    def test_lendings_of_a_call_go_on_behind_it(self):
        first = ("first", named(w=sole(NUM)), sole(NUM) + (("w",),), (), (("give", "w"),))
        program = work(("sole", "w", spot("x")), ("call", "v", "first", ("w",)), ("sole", "u", thru("v")),
                       ("sole", "w", spot("x")), GIVE, params=named(x=NUM),
                       lets=named(u=sole(NUM), v=sole(NUM), w=sole(NUM)), others=(first,))
        # 0 sole w; 1 sole "0", 2 hand, 3 take v; 4 sole u; 5 sole w; 6
        ahead = self.ahead(program)
        self.assertEqual(ahead[4], [("v", 0, 0, 0), ("v", 0, 1, 0), ("w", 0, 0, 0)])
        self.assertEqual(ahead[5], [("u", 0, 0, 0), ("u", 0, 1, 0), ("u", 0, 4, 0),
                                    ("v", 0, 0, 0), ("v", 0, 1, 0), ("w", 0, 0, 0)])
        self.assertEqual(ahead[6], [("u", 0, 0, 0), ("u", 0, 4, 0), ("v", 0, 0, 0), ("w", 0, 5, 0)])

    def test_from_any_leaf_to_each_leaf(self):
        pick = ("pick", named(r=lent(PAIR)), lent(RICH) + (("r",),), named(h=lent(RICH)), (("give", "h"),))
        program = work(("call", "h", "pick", ("r",)), GIVE, params=named(r=lent(PAIR)), lets=named(h=lent(RICH)),
                       others=(pick,))
        taken = [("h", leaf, lending, j) for leaf in range(5) for lending in (-1, 0) for j in range(2)]
        self.assertEqual(self.ahead(program)[3], taken + [("r", 0, -1, 0), ("r", 1, -1, 1)])

    def test_what_is_taken_is_all_that_is_held_then(self):
        make = ("make", named(n=NUM), lent(NUM) + ((),), named(h=lent(NUM)), (("give", "h"),))
        program = work(("lend", "h", spot("n")), ("call", "h", "make", ("n",)), GIVE, params=named(n=NUM),
                       lets=named(h=lent(NUM)), others=(make,))
        # lend; read, hand, take; rest
        self.assertEqual(self.ahead(program), [[], [("h", 0, 0, 0)], [("h", 0, 0, 0)], [("h", 0, 0, 0)], []])

    def test_a_result_that_is_an_owner(self):
        make = ("make", named(h=lent(NUM)), NUM, named(x=NUM), (("give", "x"),))
        program = work(("call", "x", "make", ("h",)), GIVE, params=named(h=lent(NUM)), lets=named(x=NUM),
                       others=(make,))
        self.assertEqual(self.ahead(program)[3], [("h", 0, -1, 0)])

    def test_calls_one_behind_the_other(self):
        one = ("one", named(a=lent(NUM)), None, (), (GIVE,))
        program = work(("call", "", "one", ("g",)), ("call", "", "one", ("h",)), GIVE,
                       params=named(g=lent(NUM), h=lent(NUM)), others=(one,))
        stands = [("g", 0, -1, 0), ("h", 0, -2, 0)]
        self.assertEqual(self.ahead(program), [
            stands, [("0", 0, -1, 0), ("0", 0, 0, 0)] + stands, stands, [("0", 0, -2, 0), ("0", 0, 2, 0)] + stands,
            stands])

    def test_a_call_round_a_loop(self):
        program = work(("call", "g", "first", ("g", "n", "h")), ("go", 0), params=named(g=lent(NUM), n=NUM, h=lent(NUM)),
                       others=(self.first,))
        stands = [("g", 0, -1, 0), ("h", 0, -3, 0)]
        self.assertEqual(self.ahead(program)[0], stands)
        self.assertEqual(self.ahead(program)[5], stands)


class AskedAgainTest(HeldTest):

    def test_told_lists_are_the_askers_own(self):
        program = work(("lend", "h", spot("x")), ("say", thru("h")), GIVE, params=named(x=NUM, r=lent(NUM)),
                       lets=named(h=lent(NUM)))
        told = held(program, 1)
        kept = list(told)
        told.pop()
        told[0] = None
        self.assertEqual(held(program, 1), kept)


if __name__ == "__main__":
    unittest.main()
