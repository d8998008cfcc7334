"""Point 30: the plain runner."""

import unittest

from lendrule.forms import is_right
from lendrule.machine import run
from lendrule.plain import played
from pieces import DEED, GIVE, NUM, OWN, PAIR, STRIP, lent, named, sole, spot, start, thru

BOUND = 10 ** 30
N = named(n=NUM)


class PlainCase(unittest.TestCase):

    def told(self, program, *inputs, most=400):
        self.assertTrue(is_right(program), program)
        return played(program, list(inputs), most)

    def says(self, program, said, *inputs):
        """The run ends done with these numbers said; the machine's does, too."""
        told = self.told(program, *inputs)
        self.assertEqual(told[:2], ("done", said))
        self.assertEqual(run(program, list(inputs)), told + ((),))


class RowsTest(PlainCase):

    def test_numbers(self):
        self.says(start(("put", spot("a"), spot("n")), ("set", spot("a"), "-", spot("a"), 7), ("say", spot("a")),
                        ("set", spot("a"), "*", 2, spot("n")), ("say", spot("a")),
                        ("set", spot("n"), "+", spot("n"), BOUND - 1), ("say", spot("n")), ("say", 9), GIVE,
                        params=N, lets=named(a=NUM)), [BOUND - 2, 10, 4, 9], 5)

    def test_strips(self):
        self.says(start(("fill", spot("s"), spot("n")), ("put", spot("s", at="n"), 1), ("say", spot("s", at=0)),
                        ("say", spot("s", at=1)), ("say", spot("s", at="n")), GIVE, params=N, lets=named(s=STRIP)),
                  [4, 1, 1], 4)

    def test_copy_and_move(self):
        self.says(start(("put", spot("x", 0), 1), ("put", spot("x", 1), 2), ("move", spot("y"), spot("x")),
                        ("copy", spot("a"), spot("y", 0)), ("say", spot("y", 1)), ("say", spot("a")),
                        ("put", spot("x", 1), 3), ("say", spot("x", 1)), ("drop", spot("x", 1)), GIVE,
                        lets=named(x=DEED, y=DEED, a=NUM)), [2, 1, 3])

    def test_jumps(self):
        self.says(start(("put", spot("i"), 0), ("if", spot("i"), spot("n"), 3), ("go", 6), ("say", spot("i")),
                        ("set", spot("i"), "+", spot("i"), 1), ("go", 1), GIVE, params=N, lets=named(i=NUM)),
                  [0, 1, 2], 3)

    def test_calls(self):
        add = ("add", named(a=NUM, d=DEED), DEED, (), (("set", spot("d", 1), "+", spot("a"), spot("d", 1)),
                                                       ("put", spot("a"), 0), ("give", "d")))
        self.says(start(("put", spot("x", 0), 1), ("put", spot("x", 1), 2), ("call", "x", "add", ("n", "x")),
                        ("say", spot("x", 1)), ("say", spot("n")), GIVE, params=N, lets=named(x=DEED), others=(add,)),
                  [7, 5], 5)


class LendingTest(PlainCase):

    def test_lent_to_many(self):
        self.says(start(("lend", "q", spot("n")), ("lend", "p", thru("q")), ("say", thru("p")), ("say", spot("n")),
                        ("say", thru("q")), GIVE, params=N, lets=named(q=lent(NUM), p=lent(NUM))), [3, 3, 3], 3)

    def test_lent_to_one_alone_and_taken_back(self):
        rows = (("sole", "r", spot("n")), ("put", thru("r"), 8))
        lets = named(r=sole(NUM), q=lent(NUM), a=NUM)
        for row in (("copy", spot("a"), spot("n")), ("put", spot("a"), spot("n")), ("set", spot("a"), "+", spot("n"), 0),
                    ("move", spot("a"), spot("n"))):
            self.says(start(*rows, row, ("say", spot("a")), GIVE, params=N, lets=lets), [8], 3)
        self.says(start(*rows, ("lend", "q", spot("n")), ("say", thru("q")), GIVE, params=N, lets=lets), [8], 3)
        self.says(start(*rows, ("sole", "r", spot("n")), ("say", thru("r")), GIVE, params=N, lets=lets), [8], 3)
        self.says(start(*rows, ("say", spot("n")), ("say", spot("n")), GIVE, params=N, lets=lets), [8, 8], 3)
        self.says(start(*rows, ("put", spot("n"), 5), ("say", spot("n")), GIVE, params=N, lets=lets), [5], 3)

    def test_taken_back_where_a_place_of_a_strip_is_written(self):
        self.says(start(("fill", spot("s"), 1), ("sole", "r", spot("s")), ("put", thru("r", at=0), 2),
                        ("put", spot("s", at=1), 3), ("say", spot("s", at=0)), ("say", spot("s", at=1)),
                        ("say", spot("s", at=2)), GIVE, lets=named(s=STRIP, r=sole(STRIP))), [2, 3, 1])

    def test_taken_back_from_whom_it_was_lent_on_to(self):
        lets = named(r=sole(NUM), s=sole(NUM), t=sole(NUM), q=lent(NUM))
        rows = (("sole", "r", spot("n")), ("sole", "s", thru("r")), ("sole", "t", thru("s")), ("put", thru("t"), 9))
        self.says(start(*rows, ("say", spot("n")), GIVE, params=N, lets=lets), [9], 1)
        self.says(start(*rows, ("say", thru("r")), ("put", thru("r"), 4), ("say", spot("n")), GIVE, params=N, lets=lets),
                  [9, 4], 1)
        self.says(start(*rows, ("lend", "q", thru("s")), ("say", thru("q")), ("say", thru("r")), GIVE, params=N,
                        lets=lets), [9, 9], 1)

    def test_lent_on_to_the_same_holder(self):
        self.says(start(("sole", "r", spot("n")), ("put", thru("r"), 2), ("sole", "r", thru("r")),
                        ("set", thru("r"), "+", thru("r"), 1), ("sole", "r", thru("r")), ("say", thru("r")),
                        ("say", spot("n")), GIVE, params=N, lets=named(r=sole(NUM))), [3, 3], 1)

    def test_leaf_by_leaf(self):
        self.says(start(("put", spot("x", 0), 1), ("fill", spot("x", 1), 2), ("sole", "r", spot("x")),
                        ("put", thru("r", 0), 3), ("say", spot("x", 0)), ("put", thru("r", 1, at=0), 4),
                        ("sole", "t", thru("r", 1)), ("put", thru("t", at=1), 5), ("say", spot("x", 1, at=0)),
                        ("say", spot("x", 1, at=1)), ("say", spot("x", 1, at=2)), GIVE,
                        lets=named(x=PAIR, r=sole(PAIR), t=sole(STRIP))), [3, 4, 5, 2])

    def test_what_nobody_takes_back_stays(self):
        """r gets another thing, and x its number only when it is asked for."""
        self.says(start(("put", spot("x"), 1), ("put", spot("y"), 2), ("sole", "r", spot("x")), ("put", thru("r"), 5),
                        ("sole", "r", spot("y")), ("put", thru("r"), 6), ("say", thru("r")), ("say", spot("x")),
                        ("say", spot("y")), GIVE, lets=named(x=NUM, y=NUM, r=sole(NUM))), [6, 5, 6])

    def test_through_a_call(self):
        grow = ("grow", named(r=sole(NUM), q=lent(NUM)), None, (),
                (("set", thru("r"), "+", thru("r"), thru("q")), GIVE))
        self.says(start(("put", spot("x"), 1), ("sole", "r", spot("x")), ("lend", "q", spot("n")),
                        ("call", "", "grow", ("r", "q")), ("say", thru("r")), ("call", "", "grow", ("r", "q")),
                        ("say", spot("x")), ("say", thru("q")), GIVE, params=N,
                        lets=named(x=NUM, r=sole(NUM), q=lent(NUM)), others=(grow,)), [6, 11, 5], 5)

    def test_given_back_by_a_call(self):
        pick = ("pick", named(r=sole(PAIR)), ("sole", STRIP, ("r",)), named(t=sole(STRIP)),
                (("put", thru("r", 0), 7), ("sole", "t", thru("r", 1)), ("give", "t")))
        self.says(start(("put", spot("x", 0), 1), ("fill", spot("x", 1), 2), ("sole", "r", spot("x")),
                        ("call", "t", "pick", ("r",)), ("put", thru("t", at=0), 3), ("say", thru("r", 1, at=0)),
                        ("say", thru("r", 0)), ("say", spot("x", 1, at=1)), GIVE,
                        lets=named(x=PAIR, r=sole(PAIR), t=sole(STRIP)), others=(pick,)), [3, 7, 2])

    def test_lent_to_many_given_back(self):
        same = ("same", named(q=lent(NUM)), ("lent", NUM, ("q",)), (), (("give", "q"),))
        self.says(start(("lend", "q", spot("n")), ("call", "p", "same", ("q",)), ("say", thru("p")), ("say", thru("q")),
                        GIVE, params=N, lets=named(q=lent(NUM), p=lent(NUM)), others=(same,)), [3, 3], 3)


class EndsTest(PlainCase):

    def test_most(self):
        program = start(("say", 1), ("say", 2), GIVE)
        self.assertEqual([self.told(program, most=most) for most in range(5)], [
            ("more", [], 0), ("more", [1], 1), ("more", [1, 2], 2), ("done", [1, 2], 3), ("done", [1, 2], 3)])

    def test_most_is_400_if_nothing_is_said_of_it(self):
        self.assertEqual(played(start(("go", 0)), []), ("more", [], 400))

    def test_deep(self):
        program = start(("say", spot("n")), ("call", "", "main", ("n",)), GIVE, params=N)
        self.assertEqual(self.told(program, 4), ("deep", [4] * 12, 23))
        self.assertEqual(self.told(program, 4, most=23), ("more", [4] * 12, 23))

    def test_the_count_at_a_call(self):
        look = ("look", (), None, (), (("say", 1), GIVE))
        program = start(("call", "", "look", ()), ("say", 2), GIVE, others=(look,))
        self.assertEqual([self.told(program, most=most) for most in (1, 2, 4, 5)], [
            ("more", [], 1), ("more", [1], 2), ("more", [1, 2], 4), ("done", [1, 2], 5)])


class NoFaultTest(PlainCase):
    """Where the machine has a fault the plain runner goes on; only that it ends is promised."""

    def test_goes_on(self):
        lets = named(x=NUM, y=OWN, s=STRIP, w=PAIR, q=lent(NUM), r=sole(NUM), t=sole(STRIP), u=lent(PAIR))
        none = ("none", named(q=lent(NUM)), ("sole", NUM, ()), named(r=sole(NUM)), (("give", "r"),))
        for row in (("say", spot("x")), ("say", thru("q")), ("put", thru("r"), 1), ("say", spot("s", at="x")),
                    ("put", spot("s", at="x"), 1), ("put", thru("t", at=2), 1), ("copy", thru("t"), spot("s")),
                    ("move", spot("y"), spot("y")), ("drop", spot("w")), ("lend", "u", thru("u")),
                    ("sole", "t", thru("t")), ("sole", "t", spot("w", 1)), ("lend", "q", thru("u", 0)),
                    ("call", "r", "none", ("q",)), ("if", spot("x"), 1, 0)):
            with self.subTest(row):
                program = start(("say", 1), row, ("say", 2), GIVE, lets=lets, others=(none,))
                self.assertEqual(run(program, [])[:2], ("fault", [1]))
                end, said, count = self.told(program)
                self.assertIn(end, ("done", "more", "deep"))
                self.assertEqual(said[:1], [1])

    def test_blanks(self):
        """Point 30 tells blanks of a name to which nothing was given."""
        program = start(("say", spot("x")), ("say", thru("q")), ("say", spot("w", 1, at=2)), GIVE,
                        lets=named(x=NUM, q=lent(NUM), w=PAIR))
        self.assertEqual(self.told(program), ("done", [0, 0, 0], 4))

    def test_a_move_is_a_copy_and_a_drop_nothing(self):
        program = start(("put", spot("x"), 4), ("move", spot("y"), spot("x")), ("say", spot("x")), ("drop", spot("x")),
                        ("say", spot("x")), GIVE, lets=named(x=OWN, y=OWN))
        self.assertEqual(self.told(program), ("done", [4, 4], 6))


class TellingTest(PlainCase):

    def test_asked_again(self):
        program = start(("say", spot("n")), GIVE, params=N)
        inputs = [5]
        told = played(program, inputs)
        told[1].append(None)
        self.assertEqual(played(program=program, inputs=inputs, most=400), ("done", [5], 2))
        self.assertEqual(inputs, [5])


if __name__ == "__main__":
    unittest.main()
