"""Points 13 to 15: the nexts of rows, the acts of rows, the nexts of acts, and which acts are come to."""

import unittest

from lendrule.acts import acts, come_to, nexts, row_nexts
from lendrule.forms import is_right
from pieces import DEED, GIVE, MAIN, NUM, OWN, PAIR, RICH, STRIP, lent, named, sole, spot, thru, work

PARAMS = named(n=NUM, r=lent(PAIR), w=sole(RICH), o=OWN)
LETS = named(x=NUM, s=STRIP, p=PAIR, d=DEED, b=RICH, m=sole(STRIP), l=lent(PAIR), e=lent(OWN))
OTHERS = (
    ("show", named(k=NUM, h=lent(PAIR)), None, (), (GIVE,)),
    ("make", named(a=OWN, h=sole(RICH), k=NUM, c=PAIR), DEED, named(d=DEED), (("give", "d"),)),
    ("pick", named(h=lent(PAIR), g=lent(PAIR)), lent(PAIR) + (("h",),), (), (("give", "h"),)),
    ("edge", named(h=sole(STRIP)), sole(STRIP) + (("h",),), (), (("give", "h"),)),
)


def with_row(row):
    return work(row, ("go", 0), params=PARAMS, lets=LETS, others=OTHERS)


class RowNextsTest(unittest.TestCase):

    def test_of_each_word(self):
        rows = (("put", spot("x"), 1), ("set", spot("x"), "+", 1, 2), ("fill", spot("s"), 0),
                ("copy", spot("p"), spot("p")), ("move", spot("p"), spot("p")), ("drop", spot("o")),
                ("lend", "l", spot("p")), ("sole", "m", spot("s")), ("call", "", "main", ()), ("say", 1))
        for row in rows:
            with self.subTest(row):
                self.assertEqual(row_nexts((row, row, row, GIVE), 0), (1,))
                self.assertEqual(row_nexts((row, row, row, GIVE), 2), (3,))

    def test_of_give(self):
        self.assertEqual(row_nexts((GIVE,), 0), ())
        self.assertEqual(row_nexts((("give", "x"), ("go", 0)), 0), ())
        self.assertEqual(row_nexts((("go", 1), ("give", "r")), 1), ())

    def test_of_go(self):
        rows = (("go", 2), ("go", 1), ("go", 0), ("go", 3))
        self.assertEqual([row_nexts(rows, k) for k in range(4)], [(2,), (1,), (0,), (3,)])

    def test_of_if(self):
        rows = (("if", 1, 2, 4), ("if", 1, 2, 0), ("if", 1, 2, 2), ("if", 1, 2, 4), GIVE)
        self.assertEqual([row_nexts(rows, k) for k in range(4)], [(1, 4), (0, 2), (2, 3), (4,)])

    def test_is_a_tuple(self):
        for rows in ((("if", 1, 2, 0), GIVE), (("go", 1), GIVE), (("say", 1), GIVE)):
            self.assertIs(type(row_nexts(rows, 0)), tuple)
            self.assertIs(type(row_nexts(rows, 1)), tuple)


class ActsTest(unittest.TestCase):

    def tells(self, row, *some):
        """The acts of the row, each as (act, name, through, first, many) or with a taker."""
        program = with_row(row)
        self.assertTrue(is_right(program), row)
        told = acts(program, 1)
        self.assertIs(type(told), list)
        expected = [(0,) + (one if len(one) == 6 else one + ("",)) for one in some]
        self.assertEqual(told, expected + [(1, "rest", "", False, 0, 0, "")])

    def test_put_a_number(self):
        self.tells(("put", spot("x"), 5), ("fill", "x", False, 0, 1))
        self.tells(("put", spot("o"), 0), ("fill", "o", False, 0, 1))
        self.tells(("put", spot("b", 3, 0), 5), ("fill", "b", False, 3, 1))
        self.tells(("put", thru("w", 1), 5), ("fill", "w", True, 1, 1))
        self.tells(("put", thru("w", 3, 0), 5), ("fill", "w", True, 3, 1))

    def test_put_a_spot(self):
        self.tells(("put", spot("x"), spot("n")), ("read", "n", False, 0, 1), ("fill", "x", False, 0, 1))
        self.tells(("put", spot("x"), spot("x")), ("read", "x", False, 0, 1), ("fill", "x", False, 0, 1))
        self.tells(("put", spot("d", 1), thru("r", 0)), ("read", "r", True, 0, 1), ("fill", "d", False, 1, 1))
        self.tells(("put", thru("w", 0), thru("e")), ("read", "e", True, 0, 1), ("fill", "w", True, 0, 1))

    def test_put_from_places_of_strips(self):
        self.tells(("put", spot("x"), spot("s", at=2)), ("read", "s", False, 0, 1), ("fill", "x", False, 0, 1))
        self.tells(("put", spot("x"), spot("b", 3, 1, at="n")),
                   ("read", "n", False, 0, 1), ("read", "b", False, 4, 1), ("fill", "x", False, 0, 1))
        self.tells(("put", spot("x"), thru("r", 1, at=0)), ("read", "r", True, 1, 1), ("fill", "x", False, 0, 1))
        self.tells(("put", spot("x"), thru("w", 2, at="x")),
                   ("read", "x", False, 0, 1), ("read", "w", True, 2, 1), ("fill", "x", False, 0, 1))

    def test_put_to_places_of_strips(self):
        self.tells(("put", spot("s", at=0), 5), ("turn", "s", False, 0, 1))
        self.tells(("put", spot("b", 2, at=2), 5), ("turn", "b", False, 2, 1))
        self.tells(("put", spot("p", 1, at="n"), 5), ("read", "n", False, 0, 1), ("turn", "p", False, 1, 1))
        self.tells(("put", thru("m", at=1), 5), ("turn", "m", True, 0, 1))
        self.tells(("put", thru("w", 3, 1, at="x"), 5), ("read", "x", False, 0, 1), ("turn", "w", True, 4, 1))

    def test_put_from_place_to_place(self):
        self.tells(("put", thru("m", at="n"), spot("s", at="x")),
                   ("read", "x", False, 0, 1), ("read", "s", False, 0, 1),
                   ("read", "n", False, 0, 1), ("turn", "m", True, 0, 1))

    def test_set(self):
        self.tells(("set", spot("x"), "+", 1, 2), ("fill", "x", False, 0, 1))
        self.tells(("set", spot("x"), "-", spot("n"), 2), ("read", "n", False, 0, 1), ("fill", "x", False, 0, 1))
        self.tells(("set", spot("x"), "*", 1, spot("n")), ("read", "n", False, 0, 1), ("fill", "x", False, 0, 1))
        self.tells(("set", thru("w", 0), "*", spot("o"), thru("r", 0)),
                   ("read", "o", False, 0, 1), ("read", "r", True, 0, 1), ("fill", "w", True, 0, 1))

    def test_set_with_all_places_by_names(self):
        self.tells(("set", spot("s", at="n"), "+", thru("m", at="x"), spot("p", 1, at="n")),
                   ("read", "x", False, 0, 1), ("read", "m", True, 0, 1),
                   ("read", "n", False, 0, 1), ("read", "p", False, 1, 1),
                   ("read", "n", False, 0, 1), ("turn", "s", False, 0, 1))

    def test_fill(self):
        self.tells(("fill", spot("s"), 7), ("fill", "s", False, 0, 1))
        self.tells(("fill", spot("b", 3, 1), spot("n")), ("read", "n", False, 0, 1), ("fill", "b", False, 4, 1))
        self.tells(("fill", thru("w", 2), spot("s", at="x")),
                   ("read", "x", False, 0, 1), ("read", "s", False, 0, 1), ("fill", "w", True, 2, 1))

    def test_copy(self):
        self.tells(("copy", spot("x"), spot("n")), ("read", "n", False, 0, 1), ("fill", "x", False, 0, 1))
        self.tells(("copy", spot("p"), spot("b", 3)), ("read", "b", False, 3, 2), ("fill", "p", False, 0, 2))
        self.tells(("copy", thru("w", 3), thru("r")), ("read", "r", True, 0, 2), ("fill", "w", True, 3, 2))
        self.tells(("copy", thru("m"), spot("p", 1)), ("read", "p", False, 1, 1), ("fill", "m", True, 0, 1))

    def test_move(self):
        self.tells(("move", spot("o"), spot("d", 1)), ("empty", "d", False, 1, 1), ("fill", "o", False, 0, 1))
        self.tells(("move", thru("w"), spot("b")), ("empty", "b", False, 0, 5), ("fill", "w", True, 0, 5))
        self.tells(("move", spot("b"), spot("b")), ("empty", "b", False, 0, 5), ("fill", "b", False, 0, 5))
        self.tells(("move", spot("b", 3), spot("p")), ("empty", "p", False, 0, 2), ("fill", "b", False, 3, 2))

    def test_drop(self):
        self.tells(("drop", spot("o")), ("empty", "o", False, 0, 1))
        self.tells(("drop", spot("b")), ("empty", "b", False, 0, 5))
        self.tells(("drop", spot("b", 3)), ("empty", "b", False, 3, 2))
        self.tells(("drop", spot("n")), ("empty", "n", False, 0, 1))

    def test_lend(self):
        self.tells(("lend", "l", spot("p")), ("lend", "p", False, 0, 2, "l"))
        self.tells(("lend", "l", spot("b", 3)), ("lend", "b", False, 3, 2, "l"))
        self.tells(("lend", "e", thru("w", 1)), ("lend", "w", True, 1, 1, "e"))
        self.tells(("lend", "r", thru("r")), ("lend", "r", True, 0, 2, "r"))

    def test_sole(self):
        self.tells(("sole", "m", spot("s")), ("sole", "s", False, 0, 1, "m"))
        self.tells(("sole", "m", thru("w", 3, 1)), ("sole", "w", True, 4, 1, "m"))
        self.tells(("sole", "w", spot("b")), ("sole", "b", False, 0, 5, "w"))
        self.tells(("sole", "m", thru("m")), ("sole", "m", True, 0, 1, "m"))

    def test_call_of_nothing(self):
        self.tells(("call", "", "main", ()), ("hand", "", False, 0, 0))

    def test_call_with_args(self):
        self.tells(("call", "", "show", ("n", "r")),
                   ("read", "n", False, 0, 1), ("lend", "r", True, 0, 2, "1"), ("hand", "", False, 0, 0))

    def test_call_that_gives_to_an_owner(self):
        self.tells(("call", "d", "make", ("o", "w", "x", "p")),
                   ("empty", "o", False, 0, 1), ("sole", "w", True, 0, 5, "1"), ("read", "x", False, 0, 1),
                   ("read", "p", False, 0, 2), ("hand", "", False, 0, 0), ("fill", "d", False, 0, 2))

    def test_call_that_gives_to_a_holder(self):
        self.tells(("call", "l", "pick", ("r", "l")),
                   ("lend", "r", True, 0, 2, "0"), ("lend", "l", True, 0, 2, "1"),
                   ("hand", "", False, 0, 0), ("take", "", False, 0, 0, "l"))
        self.tells(("call", "m", "edge", ("m",)),
                   ("sole", "m", True, 0, 1, "0"), ("hand", "", False, 0, 0), ("take", "", False, 0, 0, "m"))

    def test_call_with_an_arg_twice(self):
        self.tells(("call", "r", "pick", ("l", "l")),
                   ("lend", "l", True, 0, 2, "0"), ("lend", "l", True, 0, 2, "1"),
                   ("hand", "", False, 0, 0), ("take", "", False, 0, 0, "r"))

    def test_if_and_say(self):
        self.tells(("if", 1, 2, 0), ("rest", "", False, 0, 0))
        self.tells(("if", spot("n"), 2, 0), ("read", "n", False, 0, 1))
        self.tells(("if", spot("s", at="n"), thru("r", 1, at="x"), 1),
                   ("read", "n", False, 0, 1), ("read", "s", False, 0, 1),
                   ("read", "x", False, 0, 1), ("read", "r", True, 1, 1))
        self.tells(("say", 5), ("rest", "", False, 0, 0))
        self.tells(("say", thru("e")), ("read", "e", True, 0, 1))
        self.tells(("say", thru("m", at="n")), ("read", "n", False, 0, 1), ("read", "m", True, 0, 1))

    def test_go(self):
        self.tells(("go", 1), ("rest", "", False, 0, 0))
        self.tells(("go", 0), ("rest", "", False, 0, 0))

    def test_give(self):
        for kind, act in ((NUM, ("read", "x", False, 0, 1)), (OWN, ("empty", "x", False, 0, 1)),
                          (PAIR, ("read", "x", False, 0, 2)), (DEED, ("empty", "x", False, 0, 2)),
                          (RICH, ("empty", "x", False, 0, 5)), (STRIP, ("read", "x", False, 0, 1))):
            program = work(("give", "x"), lets=named(x=kind), result=kind)
            self.assertEqual(acts(program, 1), [(0,) + act + ("",)])
            for word in ("lent", "sole"):
                program = work(("give", "x"), lets=named(x=(word, kind)), result=(word, kind, ()))
                self.assertEqual(acts(program, 1), [(0, "give", "x", True, 0, act[4], "")])
        self.assertEqual(acts((MAIN,), 0), [(0, "rest", "", False, 0, 0, "")])

    def test_rows_are_numbered_through(self):
        program = work(("put", spot("x"), spot("n")), ("go", 3), ("say", 1), ("lend", "h", spot("x")),
                       ("say", thru("h")), GIVE, params=named(n=NUM), lets=named(x=NUM, h=lent(NUM)))
        self.assertEqual(acts(program, 1), [
            (0, "read", "n", False, 0, 1, ""), (0, "fill", "x", False, 0, 1, ""), (1, "rest", "", False, 0, 0, ""),
            (2, "rest", "", False, 0, 0, ""), (3, "lend", "x", False, 0, 1, "h"), (4, "read", "h", True, 0, 1, ""),
            (5, "rest", "", False, 0, 0, "")])

    def test_of_each_function_its_own(self):
        program = (("main", (), None, named(x=NUM), (("put", spot("x"), 1), GIVE)),
                   ("other", (), None, named(x=OWN), (("drop", spot("x")), GIVE)))
        self.assertEqual([act[1] for act in acts(program, 0)], ["fill", "rest"])
        self.assertEqual([act[1] for act in acts(program, 1)], ["empty", "rest"])


class NextsTest(unittest.TestCase):

    program = work(
        ("put", spot("s", at="x"), spot("n")),   # acts 0 to 2
        ("if", spot("n"), spot("x"), 4),         # 3, 4
        ("call", "", "main", ()),                # 5
        ("go", 6),                               # 6
        ("say", 1),                              # 7
        ("if", 1, 2, 0),                         # 8
        ("if", 1, 2, 7),                         # 9
        GIVE,                                    # 10
        params=named(n=NUM, x=NUM, s=STRIP))

    def test_of_each_act(self):
        self.assertEqual(nexts(self.program, 1), [
            (1,), (2,), (3,), (4,), (5, 7), (6,), (9,), (8,), (0, 9), (10,), ()])

    def test_kinds(self):
        told = nexts(self.program, 1)
        self.assertIs(type(told), list)
        self.assertEqual({type(one) for one in told}, {tuple})
        self.assertEqual(len(told), len(acts(self.program, 1)))

    def test_of_a_row_that_is_its_own_next(self):
        self.assertEqual(nexts(work(("go", 0)), 1), [(0,)])
        program = work(("if", spot("n"), spot("n"), 0), GIVE, params=named(n=NUM))
        self.assertEqual(nexts(program, 1), [(1,), (0, 2), ()])

    def test_of_acts_behind_a_give(self):
        program = work(GIVE, ("put", spot("n"), spot("n")), GIVE, params=named(n=NUM))
        self.assertEqual(nexts(program, 1), [(), (2,), (3,), ()])

    def test_all_are_come_to(self):
        self.assertEqual(come_to(self.program, 1), list(range(11)))

    def test_rows_that_are_never_come_to(self):
        program = work(("go", 2), ("say", 1), ("say", spot("n")), ("go", 5), ("go", 1), GIVE, ("go", 0),
                       params=named(n=NUM))
        self.assertEqual(come_to(program, 1), [0, 2, 3, 5])

    def test_come_to_by_a_jump_backward(self):
        program = work(("go", 2), GIVE, ("say", 1), ("if", 1, 2, 1), ("go", 4), ("say", 2), GIVE)
        self.assertEqual(come_to(program, 1), [0, 1, 2, 3, 4])

    def test_both_branches_are_come_to(self):
        program = work(("if", 0, 0, 3), ("if", 5, 1, 5), ("go", 2), GIVE, ("say", 1), GIVE)
        self.assertEqual(come_to(program, 1), [0, 1, 2, 3, 5])

    def test_all_acts_of_a_row_or_none(self):
        program = work(("go", 2), ("say", spot("s", at="n")), ("say", spot("s", at="n")), GIVE,
                       params=named(n=NUM, s=STRIP))
        self.assertEqual(come_to(program, 1), [0, 3, 4, 5])

    def test_act_0_is_come_to(self):
        self.assertEqual(come_to((MAIN,), 0), [0])
        self.assertEqual(come_to(work(("go", 0), GIVE), 1), [0])


class AskedAgainTest(unittest.TestCase):

    def test_told_lists_are_the_askers_own(self):
        program = NextsTest.program
        for ask in (acts, nexts, come_to):
            told = ask(program, 1)
            kept = list(told)
            self.assertIsNot(ask(program, 1), told)
            told.append("more")
            told[0] = "other"
            self.assertEqual(ask(program, 1), kept)


if __name__ == "__main__":
    unittest.main()
