"""Points 26 and 27 of calls and jumps: what is given and given back, the four ends, the count of rows."""

import unittest

from lendrule.forms import is_right
from lendrule.machine import run
from pieces import DEED, GIVE, NUM, OWN, PAIR, lent, named, sole, spot, start, thru

N = named(n=NUM)


class RunsCase(unittest.TestCase):

    def told(self, program, *inputs, most=400):
        self.assertTrue(is_right(program), program)
        return run(program, list(inputs), most)


class OwnersGivenTest(RunsCase):

    def test_copied(self):
        """The caller's stays as it was, whatever the called function writes."""
        add = ("add", named(a=NUM, b=NUM), NUM, (), (("set", spot("a"), "+", spot("a"), spot("b")), ("give", "a")))
        program = start(("put", spot("x"), 3), ("call", "y", "add", ("x", "n")), ("say", spot("y")), ("say", spot("x")),
                        ("call", "x", "add", ("x", "x")), ("say", spot("x")), GIVE, params=N, lets=named(x=NUM, y=NUM),
                        others=(add,))
        self.assertEqual(self.told(program, 4), ("done", [7, 3, 6], 11, ()))

    def test_moved(self):
        pass_on = ("pass", named(d=DEED), DEED, (), (("set", spot("d", 1), "+", spot("d", 1), 1), ("give", "d")))
        rows = (("put", spot("x", 0), 1), ("put", spot("x", 1), 2), ("call", "y", "pass", ("x",)), ("say", spot("y", 0)),
                ("say", spot("y", 1)))
        lets = named(x=DEED, y=DEED)
        self.assertEqual(self.told(start(*rows, GIVE, lets=lets, others=(pass_on,))), ("done", [1, 3], 8, ()))
        self.assertEqual(self.told(start(*rows, ("say", spot("x", 0)), GIVE, lets=lets, others=(pass_on,))),
                         ("fault", [1, 3], 7, ("empty", 0, 5)))

    def test_moved_and_back_to_the_same(self):
        pass_on = ("pass", named(d=OWN), OWN, (), (("give", "d"),))
        program = start(("put", spot("x"), 5), ("call", "x", "pass", ("x",)), ("say", spot("x")), GIVE,
                        lets=named(x=OWN), others=(pass_on,))
        self.assertEqual(self.told(program), ("done", [5], 5, ()))

    def test_the_same_owner_twice(self):
        both = ("both", named(d=OWN, e=OWN), None, (), (GIVE,))
        program = start(("put", spot("x"), 5), ("call", "", "both", ("x", "x")), GIVE, lets=named(x=OWN), others=(both,))
        self.assertEqual(self.told(program), ("fault", [], 1, ("empty", 0, 1)))

    def test_an_empty_arg(self):
        take = ("take", N, None, (), (GIVE,))
        program = start(("call", "", "take", ("x",)), GIVE, lets=named(x=NUM), others=(take,))
        self.assertEqual(self.told(program), ("fault", [], 0, ("empty", 0, 0)))

    def test_an_empty_result(self):
        for kind in (NUM, OWN):
            none = ("none", (), kind, named(x=kind), (("give", "x"),))
            program = start(("call", "y", "none", ()), GIVE, lets=named(y=kind), others=(none,))
            self.assertEqual(self.told(program), ("fault", [], 1, ("empty", 1, 0)))

    def test_lets_are_new_at_each_call(self):
        once = ("once", (), None, named(x=NUM), (("put", spot("x"), 1), ("drop", spot("x")), GIVE))
        look = ("look", (), None, named(x=NUM), (("say", spot("x")), GIVE))
        program = start(("call", "", "once", ()), ("call", "", "look", ()), GIVE, others=(once, look))
        self.assertEqual(self.told(program), ("fault", [], 5, ("empty", 2, 0)))

    def test_the_result_fills_and_ends_what_was_lent(self):
        seven = ("seven", (), NUM, named(x=NUM), (("put", spot("x"), 7), ("give", "x")))
        program = start(("put", spot("y"), 1), ("lend", "q", spot("y")), ("call", "y", "seven", ()), ("say", spot("y")),
                        ("say", thru("q")), GIVE, lets=named(y=NUM, q=lent(NUM)), others=(seven,))
        self.assertEqual(self.told(program), ("fault", [7], 6, ("stale", 0, 4)))


class HoldersGivenTest(RunsCase):

    def test_lent_to_the_called(self):
        look = ("look", named(q=lent(PAIR)), None, (), (("say", thru("q", 0)), ("say", thru("q", 1, at=2)), GIVE))
        program = start(("put", spot("x", 0), 1), ("fill", spot("x", 1), 2), ("lend", "q", spot("x")),
                        ("call", "", "look", ("q",)), ("say", thru("q", 0)), GIVE, lets=named(x=PAIR, q=lent(PAIR)),
                        others=(look,))
        self.assertEqual(self.told(program), ("done", [1, 2, 1], 9, ()))

    def test_soled_to_the_called(self):
        grow = ("grow", named(r=sole(NUM)), None, (), (("set", thru("r"), "+", thru("r"), 1), GIVE))
        program = start(("put", spot("x"), 1), ("sole", "r", spot("x")), ("call", "", "grow", ("r",)),
                        ("call", "", "grow", ("r",)), ("say", thru("r")), ("say", spot("x")), GIVE,
                        lets=named(x=NUM, r=sole(NUM)), others=(grow,))
        self.assertEqual(self.told(program), ("done", [3, 3], 11, ()))

    def test_one_alone_twice(self):
        """The second arg is lent anew from the holder, which takes the first one's tag away."""
        both = ("both", named(r=sole(NUM), s=sole(NUM)), None, (), (("put", thru("s"), 5), ("put", thru("r"), 6), GIVE))
        program = start(("put", spot("x"), 1), ("sole", "r", spot("x")), ("call", "", "both", ("r", "r")), GIVE,
                        lets=named(x=NUM, r=sole(NUM)), others=(both,))
        self.assertEqual(self.told(program), ("fault", [], 4, ("stale", 1, 1)))

    def test_many_twice(self):
        both = ("both", named(r=lent(NUM), s=lent(NUM)), None, (), (("say", thru("s")), ("say", thru("r")), GIVE))
        program = start(("put", spot("x"), 1), ("lend", "r", spot("x")), ("call", "", "both", ("r", "r")), GIVE,
                        lets=named(x=NUM, r=lent(NUM)), others=(both,))
        self.assertEqual(self.told(program), ("done", [1, 1], 7, ()))

    def test_a_holder_of_nothing_is_given(self):
        look = ("look", named(q=lent(NUM)), None, (), (GIVE,))
        program = start(("call", "", "look", ("q",)), GIVE, lets=named(q=lent(NUM)), others=(look,))
        self.assertEqual(self.told(program), ("fault", [], 0, ("empty", 0, 0)))

    def test_a_stale_holder_is_given(self):
        look = ("look", named(q=lent(NUM)), None, (), (GIVE,))
        program = start(("put", spot("x"), 1), ("lend", "q", spot("x")), ("put", spot("x"), 1),
                        ("call", "", "look", ("q",)), GIVE, lets=named(x=NUM, q=lent(NUM)), others=(look,))
        self.assertEqual(self.told(program), ("fault", [], 3, ("stale", 0, 3)))

    def test_given_back(self):
        """What comes back is held by the tag that the called function's holder had."""
        pick = ("pick", named(r=sole(PAIR)), ("sole", NUM, ("r",)), named(s=sole(NUM)),
                (("sole", "s", thru("r", 0)), ("give", "s")))
        program = start(("put", spot("x", 0), 1), ("fill", spot("x", 1), 2), ("sole", "r", spot("x")),
                        ("call", "s", "pick", ("r",)), ("put", thru("s"), 8), ("say", thru("r", 0)), GIVE,
                        lets=named(x=PAIR, r=sole(PAIR), s=sole(NUM)), others=(pick,))
        self.assertEqual(self.told(program), ("done", [8], 9, ()))

    def test_a_param_given_straight_back(self):
        same = ("same", named(q=lent(NUM)), ("lent", NUM, ("q",)), (), (("give", "q"),))
        program = start(("put", spot("x"), 4), ("lend", "q", spot("x")), ("call", "q", "same", ("q",)),
                        ("say", thru("q")), GIVE, lets=named(x=NUM, q=lent(NUM)), others=(same,))
        self.assertEqual(self.told(program), ("done", [4], 6, ()))

    def test_what_was_lent_of_own_owners_is_let_go_ahead_of_the_give(self):
        for word in ("lend", "sole"):
            kind = {"lend": lent(NUM), "sole": sole(NUM)}[word]
            own = ("own", named(n=NUM), kind + ((),), named(q=kind), ((word, "q", spot("n")), ("give", "q")))
            program = start(("call", "q", "own", ("n",)), GIVE, params=N, lets=named(q=kind), others=(own,))
            self.assertEqual(self.told(program, 1), ("fault", [], 2, ("stale", 1, 1)))

    def test_the_owners_act_is_done_ahead_of_letting_go(self):
        own = ("own", (), OWN, named(x=OWN, r=sole(OWN)), (("put", spot("x"), 1), ("sole", "r", spot("x")),
                                                           ("put", thru("r"), 2), ("give", "x")))
        program = start(("call", "y", "own", ()), ("say", spot("y")), GIVE, lets=named(y=OWN), others=(own,))
        self.assertEqual(self.told(program), ("done", [2], 7, ()))

    def test_a_give_of_nothing(self):
        none = ("none", (), ("lent", NUM, ()), named(q=lent(NUM)), (("give", "q"),))
        program = start(("call", "q", "none", ()), GIVE, lets=named(q=lent(NUM)), others=(none,))
        self.assertEqual(self.told(program), ("fault", [], 1, ("empty", 1, 0)))

    def test_held_on_behind_the_callers_own_let_go(self):
        """The boxes of the owner whose function goes on are not let go."""
        pick = ("pick", named(q=lent(NUM)), ("lent", NUM, ("q",)), named(x=NUM), (("put", spot("x"), 1), ("give", "q")))
        program = start(("lend", "q", spot("n")), ("call", "p", "pick", ("q",)), ("say", thru("p")), ("say", spot("n")),
                        GIVE, params=N, lets=named(q=lent(NUM), p=lent(NUM)), others=(pick,))
        self.assertEqual(self.told(program, 6), ("done", [6, 6], 7, ()))


class JumpsTest(RunsCase):

    def test_a_loop(self):
        program = start(("put", spot("i"), 0), ("say", spot("i")), ("set", spot("i"), "+", spot("i"), 1),
                        ("if", spot("i"), spot("n"), 1), GIVE, params=N, lets=named(i=NUM))
        self.assertEqual(self.told(program, 3), ("done", [0, 1, 2], 11, ()))
        self.assertEqual(self.told(program, 0), ("done", [0], 5, ()))

    def test_if_asks_for_less(self):
        program = start(("if", spot("n"), 5, 3), ("say", 1), GIVE, ("say", 2), GIVE, params=N)
        self.assertEqual(self.told(program, 4), ("done", [2], 3, ()))
        self.assertEqual(self.told(program, 5), ("done", [1], 3, ()))
        self.assertEqual(self.told(program, 6), ("done", [1], 3, ()))

    def test_go(self):
        program = start(("go", 3), ("say", 1), GIVE, ("go", 1))
        self.assertEqual(self.told(program), ("done", [1], 4, ()))


class EndsTest(RunsCase):

    def test_most(self):
        program = start(("say", 1), ("say", 2), GIVE)
        self.assertEqual(self.told(program, most=0), ("more", [], 0, ()))
        self.assertEqual(self.told(program, most=1), ("more", [1], 1, ()))
        self.assertEqual(self.told(program, most=2), ("more", [1, 2], 2, ()))
        self.assertEqual(self.told(program, most=3), ("done", [1, 2], 3, ()))
        self.assertEqual(self.told(program, most=4), ("done", [1, 2], 3, ()))

    def test_most_is_400_if_nothing_is_said_of_it(self):
        program = start(("go", 0))
        self.assertEqual(run(program, []), ("more", [], 400, ()))

    def test_a_call_counts_when_the_called_function_begins(self):
        look = ("look", (), None, (), (("say", 1), GIVE))
        program = start(("call", "", "look", ()), ("say", 2), GIVE, others=(look,))
        self.assertEqual(self.told(program, most=1), ("more", [], 1, ()))
        self.assertEqual(self.told(program, most=2), ("more", [1], 2, ()))
        self.assertEqual(self.told(program, most=3), ("more", [1], 3, ()))
        self.assertEqual(self.told(program, most=4), ("more", [1, 2], 4, ()))
        self.assertEqual(self.told(program, most=5), ("done", [1, 2], 5, ()))

    def test_most_ahead_of_a_fault(self):
        program = start(("say", 1), ("say", spot("a")), GIVE, lets=named(a=NUM))
        self.assertEqual(self.told(program, most=1), ("more", [1], 1, ()))
        self.assertEqual(self.told(program, most=2), ("fault", [1], 1, ("empty", 0, 1)))

    def count_down(self, *others):
        """Function 1 says n and calls itself with n - 1, down to n of 0."""
        down = ("down", N, None, (), (("say", spot("n")), ("if", spot("n"), 1, 4),
                                      ("set", spot("n"), "-", spot("n"), 1), ("call", "", "down", ("n",)), GIVE))
        return start(("call", "", "down", ("n",)), GIVE, params=N, others=(down,) + others)

    def test_twelve_functions_may_have_begun(self):
        """With n of 10 the functions begun are the first one and eleven more."""
        end, said, count, fault = self.told(self.count_down(), 10)
        self.assertEqual((end, said, fault), ("done", list(range(10, -1, -1)), ()))
        self.assertEqual(count, 2 + 10 * 5 + 3)

    def test_deep(self):
        end, said, count, fault = self.told(self.count_down(), 11)
        self.assertEqual((end, said, fault), ("deep", list(range(11, 0, -1)), ()))
        self.assertEqual(count, 1 + 10 * 4 + 3)

    def test_more_ahead_of_deep(self):
        self.assertEqual(self.told(self.count_down(), 11, most=44)[0], "more")
        self.assertEqual(self.told(self.count_down(), 11, most=45)[0], "deep")

    def test_deep_ahead_of_the_calls_acts(self):
        """The arg is empty where twelve functions have begun: but it is not touched any more."""
        rows = (("set", spot("n"), "-", spot("n"), 1), ("if", 0, spot("n"), 3), ("drop", spot("n")),
                ("call", "", "last", ("n",)), GIVE)
        last = ("last", N, None, (), rows)
        program = start(("call", "", "last", ("n",)), GIVE, params=N, others=(last,))
        self.assertEqual(self.told(program, 11)[0], "deep")
        self.assertEqual(self.told(program, 10)[::3], ("fault", ("empty", 1, 3)))

    def test_functions_that_have_given_back_do_not_count(self):
        look = ("look", (), None, (), (GIVE,))
        rows = tuple(("call", "", "look", ()) for _ in range(14))
        self.assertEqual(self.told(start(*rows, GIVE, others=(look,))), ("done", [], 29, ()))

    def test_the_fault_tells_the_function_and_the_row(self):
        look = ("look", (), None, named(a=NUM), (("say", 5), ("say", 6), ("say", spot("a")), GIVE))
        program = start(("say", 4), ("call", "", "idle", ()), ("call", "", "look", ()), GIVE,
                        others=(("idle", (), None, (), (GIVE,)), look))
        self.assertEqual(self.told(program), ("fault", [4, 5, 6], 6, ("empty", 2, 2)))

    def test_the_first_function_may_be_called(self):
        program = start(("say", spot("n")), ("if", 1, spot("n"), 4), ("put", spot("n"), 5),
                        ("call", "", "main", ("n",)), GIVE, params=N)
        self.assertEqual(self.told(program, 1), ("done", [1, 5], 8, ()))


class TellingTest(RunsCase):

    def test_asked_again(self):
        program = start(("say", spot("n")), ("say", 2), GIVE, params=N)
        inputs = [5]
        told = run(program, inputs)
        told[1].append(None)
        self.assertEqual(run(program, inputs), ("done", [5, 2], 3, ()))
        self.assertEqual(inputs, [5])

    def test_arguments_by_name(self):
        program = start(("say", spot("n")), GIVE, params=N)
        self.assertEqual(run(program=program, inputs=[1], most=1), ("more", [1], 1, ()))

    def test_kinds(self):
        end, said, count, fault = told = self.told(start(GIVE))
        self.assertEqual([one.__class__ for one in (told, end, said, count, fault)], [tuple, str, list, int, tuple])


if __name__ == "__main__":
    unittest.main()
