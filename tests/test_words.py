"""Points 35 and 36: shapes, kinds, spots, operands, functions and programs as texts."""

import unittest

from lendrule.forms import is_right
from lendrule.words import show_shape, show_spot, shown
from pieces import DEED, GIVE, NUM, OWN, PAIR, RICH, STRIP, lent, named, sole, spot, start, thru


class ShapesTest(unittest.TestCase):

    def test_leaves(self):
        self.assertEqual(show_shape(NUM), "num")
        self.assertEqual(show_shape(OWN), "own")
        self.assertEqual([show_shape(("strip", n)) for n in (1, 3, 8)], ["[1]", "[3]", "[8]"])

    def test_recs(self):
        self.assertEqual(show_shape(("rec", (NUM,))), "(num)")
        self.assertEqual(show_shape(DEED), "(num,own)")
        self.assertEqual(show_shape(RICH), "(num,own,[3],(num,[3]))")
        self.assertEqual(show_shape(("rec", (("rec", (("rec", (OWN,)), NUM)),))), "(((own),num))")


class SpotsTest(unittest.TestCase):

    def test_owners(self):
        self.assertEqual(show_spot(spot("x")), "x")
        self.assertEqual(show_spot(spot("abcdefgh", 0)), "abcdefgh.0")
        self.assertEqual(show_spot(spot("x", 0, 3, 1)), "x.0.3.1")

    def test_holders(self):
        self.assertEqual(show_spot(thru("x")), "x*")
        self.assertEqual(show_spot(thru("x", 2)), "x*.2")

    def test_places(self):
        self.assertEqual(show_spot(spot("x", at=0)), "x@0")
        self.assertEqual(show_spot(spot("x", at="i")), "x@i")
        self.assertEqual(show_spot(thru("x", 0, 1, at="i")), "x*.0.1@i")
        self.assertEqual(show_spot(thru("x", at=7)), "x*@7")


class RowsTest(unittest.TestCase):

    def shows(self, row, line):
        """The row is written so, in a function that has a name of each kind."""
        params = named(r=sole(NUM), q=lent(NUM), t=sole(PAIR), n=NUM)
        lets = named(x=PAIR, y=NUM, o=OWN, p=OWN, s=STRIP, a=NUM, b=NUM, u=lent(PAIR))
        others = (
            ("f", named(a=NUM, b=NUM), None, (), (GIVE,)), ("g", (), NUM, named(a=NUM), (("give", "a"),)),
            ("h", named(r=sole(NUM)), ("sole", NUM, ("r",)), (), (("give", "r"),)), ("i", (), None, (), (GIVE,)),
        )
        program = start(GIVE, others=(("w", params, None, lets, (row, ("go", 0), GIVE)),) + others)
        self.assertTrue(is_right(program), row)
        self.assertEqual(shown(program).split("\n")[11:13], [line, "go 0"])

    def test_put_and_set(self):
        self.shows(("put", spot("y"), 5), "put y 5")
        self.shows(("put", thru("t", 1, at="n"), spot("x", 1, at=2)), "put t*.1@n x.1@2")
        self.shows(("set", spot("x", 0), "+", spot("y"), 1), "set x.0 + y 1")
        self.shows(("set", spot("y"), "-", 0, thru("q")), "set y - 0 q*")
        self.shows(("set", spot("y"), "*", 10 ** 30 - 1, 10 ** 29), "set y * " + "9" * 30 + " 1" + "0" * 29)

    def test_parts(self):
        self.shows(("fill", spot("s"), spot("y")), "fill s y")
        self.shows(("fill", spot("x", 1), 5), "fill x.1 5")
        self.shows(("copy", spot("x"), thru("u")), "copy x u*")
        self.shows(("move", spot("o"), spot("p")), "move o p")
        self.shows(("drop", spot("x", 1)), "drop x.1")

    def test_lendings(self):
        self.shows(("lend", "u", spot("x")), "lend u x")
        self.shows(("sole", "r", thru("t", 0)), "sole r t*.0")

    def test_calls(self):
        self.shows(("call", "", "f", ("a", "b")), "call - f a b")
        self.shows(("call", "", "i", ()), "call - i")
        self.shows(("call", "y", "g", ()), "call y g")
        self.shows(("call", "r", "h", ("r",)), "call r h r")

    def test_jumps_and_say(self):
        self.shows(("if", spot("n"), 10, 2), "if n 10 2")
        self.shows(("if", 0, thru("t", 0), 0), "if 0 t*.0 0")
        self.shows(("go", 2), "go 2")
        self.shows(("say", spot("s", at="n")), "say s@n")
        self.shows(("say", 0), "say 0")

    def test_gives(self):
        self.shows(GIVE, "give")
        self.assertEqual(shown(start(GIVE, others=(("g", (), NUM, named(q=NUM), (("give", "q"),)),))),
                         "fn main\ngive\nfn g -> num\nlet q:num\ngive q")


class FunctionsTest(unittest.TestCase):

    def shows(self, head, line):
        name, params, result, lets = head
        program = start(GIVE, others=((name, params, result, lets, (("go", 0),)),))
        self.assertTrue(is_right(program))
        self.assertEqual(shown(program), "fn main\ngive\n" + line + "\ngo 0")

    def test_heads(self):
        self.shows(("f", (), None, ()), "fn f")
        self.shows(("f", named(a=NUM), None, ()), "fn f a:num")
        self.shows(("f", named(a=PAIR, r=sole(STRIP), q=lent(DEED)), None, ()),
                   "fn f a:(num,[3]) r:sole/[3] q:lent/(num,own)")

    def test_results(self):
        self.shows(("f", (), NUM, ()), "fn f -> num")
        self.shows(("f", named(a=NUM), DEED, ()), "fn f a:num -> (num,own)")
        self.shows(("f", named(r=sole(NUM), q=lent(NUM)), ("lent", NUM, ("r", "q")), ()),
                   "fn f r:sole/num q:lent/num -> lent/num r q")
        self.shows(("f", named(r=sole(NUM)), ("sole", STRIP, ()), ()), "fn f r:sole/num -> sole/[3]")

    def test_lets(self):
        self.shows(("f", (), None, named(a=NUM, r=sole(PAIR))), "fn f\nlet a:num\nlet r:sole/(num,[3])")

    def test_names_that_are_words(self):
        self.shows(("fn", named(let=NUM, num=OWN), None, named(give=NUM)), "fn fn let:num num:own\nlet give:num")

    def test_the_first_function_alone(self):
        self.assertEqual(shown((("main", named(n=NUM), None, (), (("say", spot("n")), GIVE)),)),
                         "fn main n:num\nsay n\ngive")

    def test_asked_again(self):
        program = start(GIVE)
        self.assertEqual(shown(program=program), shown(program))
        self.assertEqual(show_shape(shape=NUM) + show_spot(spot=spot("x")), "numx")


if __name__ == "__main__":
    unittest.main()
