"""Point 37: which texts are read, and to what."""

import unittest

from lendrule import errors
from lendrule.errors import LendError, Misfit, NoText
from lendrule.reader import read, read_shape, read_spot
from lendrule.words import shown
from pieces import DEED, GIVE, MAIN, NUM, OWN, PAIR, RICH, STRIP, named, spot, start, thru

NONE_OF = ("NoPart", "NoName", "NoWay", "Stale", "NotSole", "Against")


class ReaderCase(unittest.TestCase):

    def no_text(self, text, reader=read):
        with self.subTest(text), self.assertRaises(NoText) as caught:
            reader(text)
        self.assertIsInstance(caught.exception, LendError)
        self.assertNotIsInstance(caught.exception, Misfit)
        for name in NONE_OF:
            self.assertNotIsInstance(caught.exception, getattr(errors, name))

    def misfit(self, text):
        with self.subTest(text), self.assertRaises(Misfit) as caught:
            read(text)
        self.assertIsInstance(caught.exception, LendError)
        self.assertNotIsInstance(caught.exception, NoText)
        for name in NONE_OF:
            self.assertNotIsInstance(caught.exception, getattr(errors, name))


class ShapesTest(ReaderCase):

    def test_read(self):
        for text, shape in (("num", NUM), ("own", OWN), ("[1]", ("strip", 1)), ("[8]", ("strip", 8)),
                            ("(num)", ("rec", (NUM,))), ("(num,own)", DEED), ("(num,[3])", PAIR),
                            ("(num,own,[3],(num,[3]))", RICH), ("(((num)))", ("rec", (("rec", (("rec", (NUM,)),)),))),
                            ("((num,num,num,num),(own,own,own,own))", ("rec", (("rec", (NUM,) * 4), ("rec", (OWN,) * 4))))):
            self.assertEqual(read_shape(text), shape)
        self.assertEqual(read_shape(text="num"), NUM)

    def test_no_shapes(self):
        for text in ("", "nu", "nums", "Num", " num", "num ", "num,own", "[0]", "[9]", "[10]", "[03]", "[]", "[-1]", "[3",
                     "3]", "[[3]]", "[a]", "[3][3]", "[ 3]", "()", "(", ")", "(num", "num)", "(num,)", "(,num)", "(num,,num)",
                     "(num, own)", "(num)(own)", "(num),(own)", "((num)", "(num))", "((((num))))", "(num,num,num,num,num)",
                     "((num,num,num,num),(num,num,num,num),num)", "lent/num", "rec", "strip", "(num;own)", "x", "3", "(x)",
                     "((num),num),(num,(num))", "[33", "33]", "a3]", "[3)", "(3]", "(numm", "nnum)", "(num(", "(num]", "[num)",
                     "[" + "9" * 40 + "]", "num\n", "(" * 1500 + "num" + ")" * 1500, "(" * 3000):
            self.no_text(text, read_shape)


class SpotsTest(ReaderCase):

    def test_read(self):
        for text, one in (("x", spot("x")), ("abcdefgh", spot("abcdefgh")), ("x*", thru("x")), ("x.0", spot("x", 0)),
                          ("x*.0.1@i", thru("x", 0, 1, at="i")), ("x@0", spot("x", at=0)), ("x@12", spot("x", at=12)),
                          ("x.10.200", spot("x", 10, 200)), ("x*@num", thru("x", at="num")), ("x@x", spot("x", at="x")),
                          ("x." + "9" * 30, spot("x", 10 ** 30 - 1)), ("x@" + "9" * 30, spot("x", at=10 ** 30 - 1))):
            self.assertEqual(read_spot(text), one)
        self.assertEqual(read_spot(text="x"), spot("x"))
        self.assertIs(read_spot("x*")[1], True)
        self.assertIs(read_spot("x")[1], False)

    def test_no_spots(self):
        for text in ("", "X", "abcdefghi", "x1", "1", "*", "*x", "x**", "x.", "x..0", ".0", "x.0.", "x.a", "x.-1", "x.01",
                     "x.00", "x.0*", "x@", "x@@1", "x@1@2", "x@i@j", "x@01", "x@-1", "x@I", "x@i.0", "x@1*", "x @1", " x",
                     "x ", "x*.0 ", "x*.1.@i", "@i", "x@abcdefghi", "x." + "1" * 31, "x@" + "1" * 31, "x-", "", "x\n", "x@i*",
                     "x@1.0", "x.0@", "x,y"):
            self.no_text(text, read_spot)


class RowsTest(ReaderCase):

    def row(self, line):
        """The row as it is read, in a function that has a name of each kind."""
        text = ("fn main\ngive\nfn f a:num b:num\ngive\nfn g -> num\nlet a:num\ngive a\nfn i\ngive\n"
                "fn w r:sole/num q:lent/num t:sole/(num,[3])\nlet x:(num,[3])\nlet y:num\nlet n:num\nlet o:own\nlet p:own\n"
                "let s:[3]\nlet u:lent/(num,[3])\n") + line + "\ngo 0\ngive"
        program = read(text)
        self.assertEqual(shown(program), text)
        return program[4][4][0]

    def test_each(self):
        for line, row in (
                ("put y 5", ("put", spot("y"), 5)), ("put t*.1@n x.1@2", ("put", thru("t", 1, at="n"), spot("x", 1, at=2))),
                ("set x.0 + y 1", ("set", spot("x", 0), "+", spot("y"), 1)), ("set y - 0 q*", ("set", spot("y"), "-", 0, thru("q"))),
                ("set r* * y y", ("set", thru("r"), "*", spot("y"), spot("y"))), ("fill s y", ("fill", spot("s"), spot("y"))),
                ("copy x u*", ("copy", spot("x"), thru("u"))), ("move o p", ("move", spot("o"), spot("p"))),
                ("drop x.1", ("drop", spot("x", 1))), ("lend u x", ("lend", "u", spot("x"))),
                ("sole r t*.0", ("sole", "r", thru("t", 0))), ("call - f y n", ("call", "", "f", ("y", "n"))),
                ("call - i", ("call", "", "i", ())), ("call y g", ("call", "y", "g", ())),
                ("if n 10 2", ("if", spot("n"), 10, 2)), ("go 2", ("go", 2)), ("say s@n", ("say", spot("s", at="n"))),
                ("say 0", ("say", 0)), ("give", ("give", ""))):
            with self.subTest(line):
                self.assertEqual(self.row(line), row)

    def test_numbers(self):
        self.assertEqual(self.row("say " + "9" * 30), ("say", 10 ** 30 - 1))
        self.assertEqual(self.row("say 1" + "0" * 29), ("say", 10 ** 29))
        for number in ("1" + "0" * 30, "9" * 31, "00", "01", "0" * 30, "+1", "-1", "1.0", "1_0", "0x1", "1 ", "", " 1", "1a"):
            self.no_text("fn main\nsay " + number + "\ngive")

    def test_no_rows(self):
        for line in ("", " ", "puts x 1", "PUT x 1", "put", "put x", "put x 1 2", "put 1 x", "put x 1 ", " put x 1",
                     "put  x 1", "put x  1", "set x + 1", "set x / 1 1", "set x ++ 1 1", "set x 1 + 1", "set x + 1 1 1",
                     "fill 1 1", "fill x", "copy x 1", "copy 1 x", "copy x", "move x", "move x 1", "drop", "drop 1", "drop x y",
                     "lend x", "lend x* y", "lend 1 y", "lend x 1", "sole x", "sole x.0 y", "call", "call -", "call f",
                     "call - 1", "call - f*", "call - f -", "call - f 1", "call - f a.0", "call -- f", "call  f", "call x* f",
                     "if", "if 1 1", "if 1 1 x", "if 1 1 1 1", "if 1 1 -1", "go", "go x", "go 1 1", "go 01", "say", "say 1 1",
                     "say x..0", "give -", "give x y", "give 1", "give x*", "give ", "rest", "fn", "let x:num", "let", "hand",
                     "say " + "x" * 9, "\tsay 1", "say\t1", "say 1\t"):
            self.no_text("fn main\nlet x:num\ngo 1\n" + line + "\ngive")


class FunctionsTest(ReaderCase):

    def test_heads(self):
        for line, head in (
                ("fn f", ("f", (), None)), ("fn f a:num", ("f", named(a=NUM), None)),
                ("fn f a:[3] b:lent/own", ("f", (("a", STRIP), ("b", ("lent", OWN))), None)),
                ("fn f -> num", ("f", (), NUM)), ("fn f a:num -> (num,own)", ("f", named(a=NUM), DEED)),
                ("fn f q:lent/num -> lent/num q", ("f", (("q", ("lent", NUM)),), ("lent", NUM, ("q",)))),
                ("fn f q:lent/num r:sole/num -> sole/num q r",
                 ("f", (("q", ("lent", NUM)), ("r", ("sole", NUM))), ("sole", NUM, ("q", "r")))),
                ("fn f q:lent/num -> lent/num", ("f", (("q", ("lent", NUM)),), ("lent", NUM, ()))),
                ("fn fn let:num num:own", ("fn", (("let", NUM), ("num", OWN)), None))):
            text = "fn main\ngive\n" + line + "\ngo 0"
            self.assertEqual(read(text), (MAIN, head + ((), (("go", 0),))))
            self.assertEqual(shown(read(text)), text)

    def test_lets(self):
        text = "fn main a:num\nlet b:num\nlet r:sole/(num,[3])\ngive"
        self.assertEqual(read(text), (("main", named(a=NUM), None, (("b", NUM), ("r", ("sole", PAIR))), (GIVE,)),))

    def test_no_heads(self):
        for line in ("fn", "fn ", "fn  f", "fn f ", " fn f", "fn F", "fn f a", "fn f a:", "fn f :num", "fn f a:num b", "fn f a::num",
                     "fn f a:num:own", "fn f a: num", "fn f a:x", "fn f a:lent", "fn f a:lent/", "fn f a:own/num", "fn f a:/num",
                     "fn f a:lent/lent/num", "fn f a:lent/x", "fn f a:[9]", "fn f ->", "fn f -> ", "fn f -> x", "fn f -> num num",
                     "fn f -> num a", "fn f -> lent/num A", "fn f -> lent/num ", "fn f -> -> num", "fn f -> num -> num",
                     "fn f -> lent/num -> num", "fn -> num", "fn f -> a:num", "fn f->num", "fn f - > num", "fn abcdefghi",
                     "fn f abcdefghi:num", "fn f a:num  b:num", "fnf", "function f", "FN f", "fn f a:num,b:num",
                     "fn f q:lent/num -> lent/num abcdefghi"):
            self.no_text(line + "\ngive")
            self.no_text("fn main\ngive\n" + line + "\ngive")

    def test_no_lets(self):
        for line in ("let", "let ", "let x", "let x:", "let x:num ", "let  x:num", "let x:num y:num", "let X:num", "let x:nun",
                     " let x:num", "let x:num->", "letx:num", "let :num", "let abcdefghi:num"):
            self.no_text("fn main\n" + line + "\ngive")

    def test_lets_stand_ahead_of_the_rows(self):
        self.no_text("fn main\ngo 1\nlet x:num\ngive")
        self.no_text("fn main\ngive\nlet x:num")

    def test_without_a_function(self):
        for text in ("", " ", "\n", "give", "let x:num", "say 1\nfn main\ngive", "let x:num\nfn main\ngive"):
            self.no_text(text)

    def test_ends_and_blank_lines(self):
        for text in ("fn main\ngive\n", "\nfn main\ngive", "fn main\n\ngive", "fn main\ngive\n\nfn f\ngive", "fn main\ngive ",
                     " fn main\ngive", "fn main \ngive", "fn main\n give", "fn main\ngive\n ", "fn main\r\ngive"):
            self.no_text(text)


class MisfitTest(ReaderCase):

    def test_functions(self):
        for text in ("fn main", "fn main\nlet x:num", "fn main\ngive\nfn f", "fn main\nsay 1", "fn main -> num\nlet x:num\ngive x",
                     "fn main a:own\ngive", "fn main a:num a:num\ngive", "fn main a:num\nlet a:num\ngive", "fn main\ngive\nfn main\ngive",
                     "fn main a:num b:num c:num d:num e:num\ngive", "fn main\ngive\nfn f a:num -> lent/num a\ngo 0",
                     "fn main\ngive\nfn f q:lent/num -> lent/num q q\ngo 0", "fn main\ngive\nfn f -> lent/num q\ngo 0",
                     "fn main\ngive\nfn f q:lent/num p:lent/num -> lent/num p q\ngo 0",
                     "fn main" + "\ngo 0" * 33, "fn main" + "".join("\nlet " + name + ":num" for name in "abcdefghi") + "\ngive",
                     "\n".join("fn " + name + "\ngive" for name in "abcdefg")):
            self.misfit(text)

    def test_rows(self):
        for row in ("say x", "say a.0", "say a*", "say a@0", "say s", "say s@3", "say s@s", "say s@x", "put q* 1", "put s 1", "fill a 1",
                    "copy a s", "copy o o", "move a r*", "drop r*", "lend r a", "sole q a", "lend q s", "lend a a", "sole r q*",
                    "call - x", "call a main", "call - main a", "go 9", "go " + "9" * 30, "if 1 1 9", "give a", "set q* + 1 1",
                    "say t.1", "say t.0.0", "put t 1", "say " + "t." + "9" * 30, "say s@" + "9" * 30):
            self.misfit("fn main\nlet a:num\nlet s:[3]\nlet o:own\nlet q:lent/num\nlet r:sole/num\nlet t:(num)\n" + row + "\ngive")

    def test_read_is_asked_ahead_of_right(self):
        self.no_text("fn main\nsay x\nsay 01\ngive")


class WholeTest(ReaderCase):

    def test_a_program(self):
        text = ("fn main n:num\nlet x:(num,[3])\nlet r:sole/(num,[3])\nput x.0 5\nfill x.1 n\nsole r x\nput r*.1@n 7\n"
                "set r*.0 + r*.0 1\nsay x.0\nif n 10 8\ncall - f n\ngive\nfn f a:num\nsay a\ngive")
        rows = (("put", spot("x", 0), 5), ("fill", spot("x", 1), spot("n")), ("sole", "r", spot("x")),
                ("put", thru("r", 1, at="n"), 7), ("set", thru("r", 0), "+", thru("r", 0), 1), ("say", spot("x", 0)),
                ("if", spot("n"), 10, 8), ("call", "", "f", ("n",)), GIVE)
        program = start(*rows, params=named(n=NUM), lets=(("x", PAIR), ("r", ("sole", PAIR))),
                        others=(("f", named(a=NUM), None, (), (("say", spot("a")), GIVE)),))
        self.assertEqual(read(text), program)
        self.assertEqual(read(text=text), program)
        self.assertEqual(shown(program), text)


if __name__ == "__main__":
    unittest.main()
