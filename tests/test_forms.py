"""Points 8 to 12: names, kinds, spots, operands, rows, and which programs are right."""

import unittest

from lendrule.errors import LendError, NoName
from lendrule.forms import is_right, kind_of

NUM = ("num",)
OWN = ("own",)
STRIP = ("strip", 3)
PAIR = ("rec", (NUM, STRIP))
RICH = ("rec", (NUM, OWN, STRIP, PAIR))
LENT = ("lent", PAIR)
SOLE = ("sole", RICH)

BOUND = 10 ** 30
GIVE = ("give", "")


def spot(name, *path, at=None):
    return (name, False, path, at)


def thru(name, *path, at=None):
    return (name, True, path, at)


def main(rows=(GIVE,), params=(), lets=(), name="main", result=None):
    return (name, params, result, lets, rows)


PARAMS = (("n", NUM), ("r", LENT), ("w", SOLE), ("o", OWN))
LETS = (("x", NUM), ("s", STRIP), ("p", PAIR), ("q", PAIR), ("b", RICH), ("m", ("sole", STRIP)),
        ("l", ("lent", PAIR)), ("e", ("lent", OWN)))
RESULT = ("lent", PAIR, ("r", "w"))

# Functions to be called from the one that bears the row under test.
OTHERS = (
    ("show", (("k", NUM), ("h", LENT)), None, (), (GIVE,)),
    ("make", (("a", OWN), ("k", NUM)), RICH, (("c", RICH),), (("give", "c"),)),
    ("pick", (("h", LENT), ("w", SOLE)), ("lent", PAIR, ("h",)), (), (("give", "h"),)),
    ("edge", (("w", ("sole", STRIP)),), ("sole", STRIP, ("w",)), (), (("give", "w"),)),
)


def with_row(*rows):
    return (main(), ("work", PARAMS, RESULT, LETS, rows + (("give", "r"),))) + OTHERS


def with_function(params=(), result=None, lets=(), rows=(GIVE,), name="work"):
    return (main(), (name, params, result, lets, rows))


class Touchy:

    __hash__ = None

    def __eq__(self, other):
        raise RuntimeError


def words(thing):
    try:
        return repr(thing)[:2000]
    except ValueError:
        return "something with a number of too many figures to be written"


class FormsTest(unittest.TestCase):

    def right(self, program):
        self.assertIs(is_right(program), True, words(program))

    def wrong(self, program):
        self.assertIs(is_right(program), False, words(program))

    def right_rows(self, *rows):
        for row in rows:
            with self.subTest(words(row)):
                self.right(with_row(row))

    def wrong_rows(self, *rows):
        for row in rows:
            with self.subTest(words(row)):
                self.wrong(with_row(row))


class KindOfTest(unittest.TestCase):

    function = ("work", PARAMS, RESULT, LETS, (("give", "r"),))

    def test_of_params_and_lets(self):
        for name, kind in PARAMS + LETS:
            self.assertEqual(kind_of(self.function, name), kind)

    def test_of_owners_and_holders(self):
        self.assertEqual(kind_of(self.function, "n"), ("num",))
        self.assertEqual(kind_of(self.function, "b"), RICH)
        self.assertEqual(kind_of(self.function, "r"), ("lent", PAIR))
        self.assertEqual(kind_of(self.function, "m"), ("sole", ("strip", 3)))

    def test_without_params_or_lets(self):
        self.assertEqual(kind_of(main(params=(("i", NUM),)), "i"), NUM)
        self.assertEqual(kind_of(main(lets=(("i", OWN),)), "i"), OWN)
        with self.assertRaises(NoName):
            kind_of(main(), "i")

    def test_no_name(self):
        for name in ("", "z", "work", "N", "num", "0", "rr", "main", " n"):
            with self.subTest(name), self.assertRaises(NoName):
                kind_of(self.function, name)

    def test_a_piece_of_a_name_is_none(self):
        function = main(params=(("count", NUM),), lets=(("total", NUM), ("totals", OWN)))
        for name in ("c", "coun", "ount", "counts", "tot", "t", "otals", ""):
            with self.subTest(name), self.assertRaises(NoName):
                kind_of(function, name)
        self.assertEqual(kind_of(function, "total"), NUM)
        self.assertEqual(kind_of(function, "totals"), OWN)

    def test_the_refusal_is_a_lend_error(self):
        with self.assertRaises(LendError):
            kind_of(main(), "i")


class ProgramTest(FormsTest):

    def test_the_least_program(self):
        self.right((main(),))
        self.right((main((("go", 0),)),))

    def test_number_of_functions(self):
        self.wrong(())
        names = ["a", "b", "c", "d", "e", "f", "g"]
        for many in range(1, 7):
            self.right(tuple(main(name=name) for name in names[:many]))
        self.wrong(tuple(main(name=name) for name in names))

    def test_names_of_functions(self):
        for name in ("a", "z", "abcdefgh", "zzzzzzzz", "main", "rec", "num", "lent", "if", "give"):
            self.right((main(name=name),))
            self.right(with_function(name=name) if name != "main" else (main(),))
        for name in ("", "abcdefghi", "A", "aB", "a b", " a", "a ", "a1", "1", "a_b", "-", "~", "a.", "`", "{", "az{"):
            self.wrong((main(name=name),))
            self.wrong(with_function(name=name))

    def test_functions_alike_in_name(self):
        self.wrong((main(), main()))
        self.wrong((main(), main(name="a"), main(name="b"), main(name="a")))
        self.wrong((main(), main(name="main", params=(("i", NUM),))))

    def test_names_may_be_like_names_of_functions(self):
        self.right((main(params=(("main", NUM),), lets=(("work", NUM),)), main(name="work")))

    def test_params_of_the_first_function(self):
        self.right((main(params=(("i", NUM), ("j", NUM), ("k", NUM), ("l", NUM))),))
        for kind in (OWN, STRIP, ("strip", 1), PAIR, ("rec", (NUM,)), ("lent", NUM), ("sole", NUM)):
            self.wrong((main(params=(("i", kind),)),))
            self.wrong((main(params=(("i", NUM), ("j", kind))),))
            self.wrong((main(params=(("i", kind), ("j", NUM))),))
            self.right((main(lets=(("i", kind),)),))
            self.right(with_function(params=(("i", kind),)))

    def test_result_of_the_first_function(self):
        self.wrong((main((("give", "i"),), (("i", NUM),), result=NUM),))
        self.wrong((main((("go", 0),), (("i", NUM),), result=NUM),))
        self.wrong((main((("go", 0),), (("i", NUM),), result=("lent", NUM, ())),))
        self.right(with_function((("i", NUM),), NUM, (), (("give", "i"),)))

    def test_only_the_first_function_is_held_to_it(self):
        other = ("work", (("o", OWN),), OWN, (), (("give", "o"),))
        self.right((main(), other))
        self.wrong((other, main()))

    def test_each_function_is_looked_at(self):
        bad = main((("go", 1),), name="bad")
        self.wrong((main(), bad))
        self.wrong((main(), bad, main(name="last")))
        self.wrong((bad, main()))


class FunctionTest(FormsTest):

    def test_number_of_params(self):
        for kind in (NUM, OWN, ("lent", NUM)):
            named = tuple((name, kind) for name in "abcde")
            for many in range(5):
                self.right(with_function(params=named[:many]))
            self.wrong(with_function(params=named))
        self.wrong((main(params=tuple((name, NUM) for name in "abcde")),))

    def test_number_of_lets(self):
        named = tuple((name, NUM) for name in "abcdefghi")
        for many in range(9):
            self.right((main(lets=named[:many]),))
            self.right(with_function(lets=named[:many]))
        self.wrong((main(lets=named),))
        self.wrong(with_function(lets=named))

    def test_four_params_and_eight_lets(self):
        lets = tuple((name, NUM) for name in "abcdefgh")
        params = tuple((name, NUM) for name in "ijkl")
        self.right((main(params=params, lets=lets),))

    def test_number_of_rows(self):
        self.wrong((main(()),))
        self.wrong(with_function(rows=()))
        for many in (1, 2, 31, 32):
            self.right((main((("say", 1),) * (many - 1) + (GIVE,)),))
        for many in (33, 34, 64):
            self.wrong((main((("say", 1),) * (many - 1) + (GIVE,)),))
            self.wrong(with_function(rows=(("say", 1),) * (many - 1) + (GIVE,)))

    def test_names(self):
        for name in ("a", "z", "abcdefgh", "num", "work"):
            self.right(with_function(params=((name, NUM),)))
            self.right(with_function(lets=((name, NUM),)))
        for name in ("", "abcdefghi", "A", "a1", "0", "1", "a b", "-", "~", "a*", "a.", "@"):
            self.wrong(with_function(params=((name, NUM),)))
            self.wrong(with_function(lets=((name, NUM),)))

    def test_names_alike(self):
        self.wrong(with_function(params=(("a", NUM), ("a", NUM))))
        self.wrong(with_function(params=(("a", NUM), ("b", NUM), ("a", OWN))))
        self.wrong(with_function(lets=(("a", NUM), ("a", NUM))))
        self.wrong(with_function(lets=(("a", NUM), ("b", NUM), ("a", ("lent", NUM)))))
        self.wrong(with_function(params=(("a", NUM),), lets=(("a", NUM),)))
        self.wrong(with_function(params=(("a", NUM), ("b", NUM)), lets=(("c", NUM), ("b", OWN))))
        self.right(with_function(params=(("a", NUM),), lets=(("aa", NUM),)))

    def test_names_alike_in_two_functions(self):
        self.right((main(params=(("a", NUM),), lets=(("b", OWN),)), main(name="w", params=(("b", NUM),))))

    def test_kinds(self):
        shapes = (NUM, OWN, STRIP, ("strip", 1), ("strip", 8), PAIR, RICH, ("rec", (RICH,)))
        for shape in shapes:
            for kind in (shape, ("lent", shape), ("sole", shape)):
                self.right(with_function(params=(("a", kind),)))
                self.right(with_function(lets=(("a", kind),)))

    def test_kinds_that_are_none(self):
        deep = NUM
        for _ in range(100):
            deep = ("rec", (deep,))
        shapes = ((), ("nom",), ("strip", 0), ("strip", 9), ("strip", -10 ** 5000), ("rec", ()), ("rec", (NUM,) * 5),
                  ("rec", (("rec", (RICH,)),)), ("rec", (RICH, RICH)), ("lent", NUM), ("sole", NUM), deep, ("num", 1),
                  ("strip", "a"), ("strip", True), ("strip", [1]), ("rec", [NUM]), (("num",),), ((),), (0,), "num")
        for shape in shapes:
            for kind in (("lent", shape), ("sole", shape)):
                self.wrong(with_function(params=(("a", kind),)))
                self.wrong(with_function(lets=(("a", kind),)))
                self.wrong(with_function(result=kind + ((),), rows=(("go", 0),)))
            if shape not in (("lent", NUM), ("sole", NUM)):
                self.wrong(with_function(params=(("a", shape),)))
                self.wrong(with_function(lets=(("a", shape),)))
            self.wrong(with_function(result=shape, rows=(("go", 0),)))

    def test_kinds_with_things_that_cannot_be_compared(self):
        for shape in ((Touchy(),), (Touchy(), NUM), ("strip", Touchy()), ("rec", Touchy()), ("rec", (Touchy(),)),
                      (Touchy(), NUM, ())):
            for kind in (shape, ("lent", shape)):
                self.wrong(with_function(params=(("a", kind),)))
                self.wrong(with_function(lets=(("a", kind),)))
                self.wrong(with_function(result=kind, rows=(("go", 0),)))
                self.wrong(with_function(result=kind + ((),), rows=(("go", 0),)))

    def test_words_of_kinds(self):
        for word in ("", "own", "num", "Lent", "lend", "lent ", "held", "strip", "rec"):
            self.wrong(with_function(lets=(("a", (word, NUM)),)))
            self.wrong(with_function(params=(("a", (word, NUM)),)))
            self.wrong(with_function(result=(word, NUM, ()), rows=(("go", 0),)))
        self.wrong(with_function(lets=(("a", ("lent",)),)))
        self.wrong(with_function(lets=(("a", ("lent", NUM, ())),)))
        self.wrong(with_function(lets=(("a", ("lent", NUM, NUM)),)))

    def test_results(self):
        for shape in (NUM, OWN, STRIP, PAIR, RICH):
            self.right(with_function(result=shape, lets=(("a", shape),), rows=(("give", "a"),)))
            for word in ("lent", "sole"):
                lets = (("a", (word, shape)),)
                self.right(with_function(result=(word, shape, ()), lets=lets, rows=(("give", "a"),)))

    def test_results_that_are_none(self):
        for result in ((), ("lent",), ("lent", NUM), ("sole", NUM), ("lent", NUM, (), ()), ("num", NUM, ()), "", 0,
                       (None,), ("strip", 3, ()), ("rec", (NUM,), ()), ("num", 1), ("strip", 0), False, True):
            self.wrong(with_function(result=result, rows=(("go", 0),)))

    def test_sources(self):
        params = (("a", NUM), ("b", ("lent", NUM)), ("c", ("sole", PAIR)), ("d", ("lent", OWN)))
        for word in ("lent", "sole"):
            for sources in ((), ("b",), ("c",), ("d",), ("b", "c"), ("b", "d"), ("c", "d"), ("b", "c", "d")):
                self.right(with_function(params, (word, NUM, sources), (), (("go", 0),)))
            wrong = (("a",), ("a", "b"), ("b", "b"), ("b", "c", "c"), ("c", "b"), ("d", "b"), ("b", "d", "c"), ("e",),
                     ("",), ("b", ""), ("x",), ("b", "x"), ("b", "c", "d", "b"), ("work",), ("B",), "b", "bc", ["b"],
                     None, 0, (0,), (1,), ((),), (("b",),))
            for sources in wrong:
                with self.subTest(word=word, sources=sources):
                    self.wrong(with_function(params, (word, NUM, sources), (("x", ("lent", NUM)),), (("go", 0),)))

    def test_the_last_row(self):
        lets = (("x", NUM), ("o", OWN), ("s", STRIP), ("t", STRIP), ("h", ("lent", NUM)), ("w", ("sole", NUM)))
        for row in (("put", spot("x"), 1), ("set", spot("x"), "+", 1, 2), ("fill", spot("s"), 0), ("say", 1),
                    ("copy", spot("s"), spot("t")), ("move", spot("s"), spot("t")), ("drop", spot("o")),
                    ("lend", "h", spot("x")), ("sole", "w", spot("x")), ("call", "", "main", ()), ("if", 1, 2, 0)):
            with self.subTest(row=row):
                self.right((main((row, GIVE), lets=lets),))
                self.right((main((row, ("go", 0)), lets=lets),))
                self.wrong((main((row,), lets=lets),))
                self.wrong((main((GIVE, row), lets=lets),))
                self.wrong((main((("go", 0), row), lets=lets),))


class SpotTest(FormsTest):

    def reads(self, *spots):
        self.right_rows(*[("say", one) for one in spots])

    def reads_not(self, *spots):
        self.wrong_rows(*[("say", one) for one in spots])

    def lends(self, name, one):
        return (main(), ("work", PARAMS, RESULT, LETS[:7] + (("t", name),), (("lend", "t", one), ("give", "r"))))

    def test_number_spots_of_owners(self):
        self.reads(spot("n"), spot("o"), spot("x"), spot("p", 0), spot("b", 0), spot("b", 1), spot("b", 3, 0))

    def test_number_spots_through_holders(self):
        self.reads(thru("r", 0), thru("w", 0), thru("w", 1), thru("w", 3, 0), thru("e"), thru("l", 0))

    def test_places_of_strips(self):
        for at in (0, 1, 2, "n", "x"):
            self.reads(spot("s", at=at), spot("p", 1, at=at), spot("b", 2, at=at), spot("b", 3, 1, at=at),
                       thru("r", 1, at=at), thru("w", 2, at=at), thru("w", 3, 1, at=at), thru("m", at=at))

    def test_places_beyond_the_strip(self):
        for at in (3, -1, 4, -3, 10 ** 29, -10 ** 29, BOUND, 10 ** 5000, -10 ** 5000):
            self.reads_not(spot("s", at=at), spot("b", 3, 1, at=at), thru("r", 1, at=at), thru("m", at=at))

    def test_the_last_place_of_each_strip(self):
        for n in range(1, 9):
            lets = (("s", ("strip", n)),)
            self.right((main((("say", spot("s", at=n - 1)), GIVE), lets=lets),))
            self.wrong((main((("say", spot("s", at=n)), GIVE), lets=lets),))

    def test_names_at_that_are_no_nums(self):
        for at in ("", "o", "s", "p", "b", "r", "w", "e", "zz", "work", "main", "nn", "N", "0", "1"):
            self.reads_not(spot("s", at=at), thru("r", 1, at=at))

    def test_holder_of_a_num_is_no_at(self):
        for word in ("lent", "sole"):
            lets = (("h", (word, NUM)), ("s", STRIP))
            self.wrong((main((("say", spot("s", at="h")), GIVE), lets=lets),))

    def test_at_of_other_things_than_strips(self):
        for at in (0, 1, "n"):
            self.reads_not(spot("n", at=at), spot("o", at=at), spot("p", at=at), spot("p", 0, at=at),
                           spot("b", at=at), spot("b", 3, at=at), thru("r", at=at), thru("r", 0, at=at),
                           thru("e", at=at), thru("w", 1, at=at))

    def test_at_of_other_kinds(self):
        for at in (True, False, (), ("n",), [0], 0.0, {}):
            self.reads_not(spot("s", at=at), thru("m", at=at))

    def test_spots_of_more_than_a_number(self):
        self.reads_not(spot("s"), spot("p"), spot("p", 1), spot("b"), spot("b", 2), spot("b", 3), spot("b", 3, 1),
                       thru("r"), thru("r", 1), thru("w"), thru("w", 2), thru("m"))

    def test_through(self):
        self.reads_not(thru("n"), thru("o"), thru("p", 0), thru("s", at=0), thru("b", 3, 0))
        self.reads_not(spot("r", 0), spot("w", 0), spot("e"), spot("m", at=0), spot("l", 0), spot("w", 3, 1, at=1))
        for through in (None, 0, 1, "", "True", ()):
            self.reads_not(("n", through, (), None), ("e", through, (), None))

    def test_names(self):
        for name in ("", "z", "work", "main", "nn", "N", "n ", "0"):
            self.reads_not(spot(name), thru(name))
        for name in (None, 0, True, ("n",), ["n"], {}):
            self.reads_not((name, False, (), None), (name, True, (), None))

    def test_names_of_another_function(self):
        self.reads_not(spot("k"), spot("a"), thru("h", 0), spot("c", 0))

    def test_paths(self):
        for path in ((-1,), (2,), (0, 0), (1, 0), (-2,), (10 ** 29,), (-10 ** 29,), (10 ** 5000,), (0, -1),
                     (-10 ** 5000,), (0, 10 ** 5000)):
            self.reads_not(spot("p", *path), thru("r", *path))
        self.reads_not(spot("n", 0), spot("n", -1), spot("o", 0), thru("e", 0), spot("b", 4), spot("b", 3, 2),
                       spot("b", 3, 0, 0), spot("b", 1, 0), thru("w", 4), thru("w", -1), spot("s", 0),
                       spot("s", 0, at=0), thru("m", 0, at=0), spot("b", -4), spot("b", 3, -2))

    def test_paths_of_other_kinds(self):
        for path in ([0], None, 0, "0", ("0",), (True,), (False,), (None,), ((0,),), (0.0,), ""):
            self.reads_not(("p", False, path, None), ("r", True, path, None))

    def test_spots_of_other_lengths(self):
        self.reads_not((), ("n",), ("n", False), ("n", False, ()), ("n", False, (), None, None), "n", "", None,
                       ["n", False, (), None])

    def test_parts_at_paths(self):
        for kind, one in ((RICH, spot("b")), (NUM, spot("b", 0)), (OWN, spot("b", 1)), (STRIP, spot("b", 2)),
                          (PAIR, spot("b", 3)), (NUM, spot("b", 3, 0)), (STRIP, spot("b", 3, 1)), (PAIR, thru("r")),
                          (RICH, thru("w")), (PAIR, thru("w", 3)), (STRIP, thru("r", 1))):
            for other in (NUM, OWN, STRIP, ("strip", 2), PAIR, RICH):
                with self.subTest(spot=one, other=other):
                    self.assertIs(is_right(self.lends(("lent", other), one)), other == kind)


class OperandTest(FormsTest):

    right_operands = (0, 1, 7, 10 ** 29, BOUND - 1, spot("n"), spot("o"), spot("b", 3, 0), thru("r", 0), thru("e"),
                      spot("s", at=2), thru("w", 3, 1, at="x"))
    wrong_operands = (-1, BOUND, BOUND + 1, -BOUND, 10 ** 5000, -10 ** 5000, True, False, None, "", "n", 1.0, (), [],
                      spot("s"), spot("p"), thru("w"), spot("r", 0), thru("n"), spot("s", at=3), spot("p", 2),
                      spot("zz"))

    def test_operands_of_each_row(self):
        forms = (
            lambda operand: ("put", spot("x"), operand),
            lambda operand: ("set", spot("x"), "+", operand, 1),
            lambda operand: ("set", spot("x"), "-", 1, operand),
            lambda operand: ("set", spot("x"), "*", spot("n"), operand),
            lambda operand: ("fill", spot("s"), operand),
            lambda operand: ("if", operand, 1, 0),
            lambda operand: ("if", 1, operand, 0),
            lambda operand: ("say", operand),
        )
        for form in forms:
            self.right_rows(*[form(operand) for operand in self.right_operands])
            self.wrong_rows(*[form(operand) for operand in self.wrong_operands])


class RowsTest(FormsTest):

    written = (spot("n"), spot("x"), spot("o"), spot("b", 1), spot("b", 3, 0), spot("s", at=0), spot("s", at="x"),
               spot("b", 3, 1, at=2), thru("w", 0), thru("w", 1), thru("w", 3, 0), thru("w", 2, at=1),
               thru("w", 3, 1, at="n"), thru("m", at=2), thru("m", at="x"))
    not_written = (thru("r", 0), thru("r", 1, at=0), thru("r", 1, at="n"), thru("l", 0), thru("e"), spot("s"),
                   spot("p"), spot("b", 3), thru("w"), thru("w", 2), thru("m"), spot("w", 0), thru("x"), spot("zz"),
                   spot("s", at=3), spot("p", 2), 0, 1, "x", "", None, ())

    def test_put(self):
        self.right_rows(*[("put", one, 5) for one in self.written])
        self.right_rows(*[("put", one, thru("r", 0)) for one in self.written])
        self.wrong_rows(*[("put", one, 5) for one in self.not_written])

    def test_set(self):
        for sign in ("+", "-", "*"):
            self.right_rows(*[("set", one, sign, 5, spot("n")) for one in self.written])
            self.wrong_rows(*[("set", one, sign, 5, spot("n")) for one in self.not_written])
        for sign in ("", "/", "**", "+-", " ", "+ ", "a", "x", "~", 0, None, True, ("+",), ["+"]):
            self.wrong_rows(("set", spot("x"), sign, 1, 2))

    def test_fill(self):
        strips = (spot("s"), spot("p", 1), spot("b", 2), spot("b", 3, 1), thru("w", 2), thru("w", 3, 1), thru("m"))
        self.right_rows(*[("fill", one, 0) for one in strips])
        self.right_rows(*[("fill", one, spot("n")) for one in strips])
        self.wrong_rows(*[("fill", one, 0) for one in (
            spot("s", at=0), spot("s", at="x"), thru("m", at=1), spot("n"), spot("o"), spot("p"), spot("b"),
            spot("b", 3), spot("p", 0), thru("r", 1), thru("l", 1), thru("r"), thru("w"), thru("w", 0), spot("m"),
            thru("s"), spot("zz"), spot("p", 2), "s", 0)])

    def test_copy(self):
        self.right_rows(
            ("copy", spot("x"), spot("n")), ("copy", spot("p"), spot("q")), ("copy", spot("p"), spot("p")),
            ("copy", spot("s"), spot("p", 1)), ("copy", spot("p", 1), thru("r", 1)), ("copy", spot("p"), thru("r")),
            ("copy", thru("w", 3), thru("r")), ("copy", thru("w", 2), thru("m")), ("copy", thru("m"), spot("s")),
            ("copy", spot("b", 3), thru("w", 3)), ("copy", spot("b", 2), spot("b", 3, 1)),
            ("copy", thru("w", 0), thru("l", 0)))

    def test_copy_that_does_not_fit(self):
        self.wrong_rows(
            # not alike
            ("copy", spot("x"), spot("s")), ("copy", spot("p"), spot("s")), ("copy", spot("p"), spot("p", 0)),
            ("copy", spot("s"), spot("x")), ("copy", spot("b"), spot("p")), ("copy", spot("x"), spot("o")),
            # not copied
            ("copy", spot("o"), spot("b", 1)), ("copy", spot("b"), thru("w")), ("copy", spot("o"), spot("o")),
            ("copy", thru("w", 1), spot("o")), ("copy", spot("o"), thru("e")),
            # one place of a strip
            ("copy", spot("x"), spot("s", at=0)), ("copy", spot("s", at=0), spot("x")),
            ("copy", spot("s", at=0), spot("s", at=0)), ("copy", spot("s", at=0), spot("s")),
            ("copy", spot("s"), spot("s", at="x")),
            # not to be written
            ("copy", thru("r"), spot("p")), ("copy", thru("l"), thru("r")), ("copy", thru("r", 1), spot("s")),
            # no spots
            ("copy", spot("p"), 0), ("copy", 0, spot("p")), ("copy", "p", "q"), ("copy", spot("p"), spot("r")),
            ("copy", spot("p"), thru("q")), ("copy", spot("zz"), spot("q")), ("copy", spot("p"), spot("zz")),
            ("copy", spot("x"), spot("p", 2)), ("copy", spot("p", 2), spot("x")))

    def test_copy_of_strips_of_other_lengths(self):
        lets = (("s", ("strip", 2)), ("t", ("strip", 3)), ("u", ("strip", 2)))
        for word in ("copy", "move"):
            self.right((main(((word, spot("s"), spot("u")), GIVE), lets=lets),))
            self.wrong((main(((word, spot("s"), spot("t")), GIVE), lets=lets),))

    def test_move(self):
        self.right_rows(
            ("move", spot("x"), spot("n")), ("move", spot("p"), spot("q")), ("move", spot("p"), spot("p")),
            ("move", spot("o"), spot("b", 1)), ("move", thru("w"), spot("b")), ("move", thru("w", 1), spot("o")),
            ("move", thru("m"), spot("s")), ("move", spot("b", 3), spot("p")), ("move", spot("b"), spot("b")),
            ("move", spot("b", 2), spot("b", 3, 1)))

    def test_move_that_does_not_fit(self):
        self.wrong_rows(
            ("move", spot("p"), thru("r")), ("move", spot("b"), thru("w")), ("move", spot("o"), thru("e")),
            ("move", spot("s"), thru("m")), ("move", spot("x"), thru("w", 0)), ("move", thru("w", 3), thru("w", 3)),
            ("move", spot("x"), spot("s")), ("move", spot("x"), spot("o")), ("move", spot("p"), spot("b")),
            ("move", thru("r"), spot("p")), ("move", thru("l"), spot("p")), ("move", thru("e"), spot("o")),
            ("move", spot("x"), spot("s", at=0)), ("move", spot("s", at=0), spot("x")),
            ("move", spot("s", at=0), spot("s", at=1)), ("move", spot("s"), spot("s", at="n")),
            ("move", spot("s", at="n"), spot("s")), ("move", spot("p"), 0), ("move", 0, spot("p")),
            ("move", spot("p"), spot("r")), ("move", spot("zz"), spot("p")), ("move", spot("p"), spot("zz")),
            ("move", spot("p", 2), spot("x")), ("move", spot("x"), spot("p", 2)))

    def test_drop(self):
        self.right_rows(*[("drop", one) for one in (
            spot("n"), spot("o"), spot("s"), spot("p"), spot("p", 1), spot("b"), spot("b", 3, 0))])
        self.wrong_rows(*[("drop", one) for one in (
            thru("w"), thru("w", 1), thru("r"), thru("e"), thru("m"), spot("s", at=0), spot("s", at="n"), spot("w"),
            thru("o"), spot("p", 2), spot("zz"), "o", 0, None)])

    def test_lend(self):
        self.right_rows(
            ("lend", "r", spot("p")), ("lend", "l", spot("p")), ("lend", "l", spot("b", 3)), ("lend", "l", thru("r")),
            ("lend", "l", thru("w", 3)), ("lend", "l", thru("l")), ("lend", "e", spot("o")),
            ("lend", "e", spot("b", 1)), ("lend", "e", thru("w", 1)), ("lend", "e", thru("e")))
        self.wrong_rows(
            ("lend", "l", spot("b")), ("lend", "l", spot("p", 1)), ("lend", "e", spot("x")), ("lend", "e", spot("p")),
            ("lend", "m", spot("s")), ("lend", "w", spot("b")), ("lend", "m", thru("m")), ("lend", "p", spot("p")),
            ("lend", "q", spot("p")), ("lend", "", spot("p")), ("lend", "zz", spot("p")), ("lend", "h", spot("p")),
            ("lend", "e", spot("s", at=0)), ("lend", "l", spot("r")), ("lend", "l", thru("p")), ("lend", "l", 0),
            ("lend", "l", "p"), ("lend", 0, spot("p")), ("lend", None, spot("p")), ("lend", thru("l"), spot("p")),
            ("lend", ["l"], spot("p")), ("lend", "x", spot("n")), ("lend", "l", spot("zz")), ("lend", "e", spot("b", 4)))

    def test_lend_of_one_place(self):
        for word in ("lent", "sole"):
            row = {"lent": "lend", "sole": "sole"}[word]
            for kind in ((word, NUM), (word, STRIP)):
                lets = (("h", kind), ("s", STRIP), ("i", NUM))
                for at in (0, 2, "i"):
                    self.wrong((main(((row, "h", spot("s", at=at)), GIVE), lets=lets),))
                self.assertIs(is_right((main(((row, "h", spot("s")), GIVE), lets=lets),)), kind == (word, STRIP))

    def test_sole(self):
        self.right_rows(
            ("sole", "m", spot("s")), ("sole", "m", spot("b", 2)), ("sole", "m", spot("p", 1)),
            ("sole", "m", thru("w", 2)), ("sole", "m", thru("w", 3, 1)), ("sole", "m", thru("m")),
            ("sole", "w", spot("b")), ("sole", "w", thru("w")))
        self.wrong_rows(
            ("sole", "m", thru("r", 1)), ("sole", "m", thru("l", 1)), ("sole", "l", spot("p")),
            ("sole", "r", spot("p")), ("sole", "e", spot("o")), ("sole", "l", thru("w", 3)), ("sole", "m", spot("p")),
            ("sole", "w", spot("p")), ("sole", "w", thru("r")), ("sole", "m", spot("x")), ("sole", "s", spot("s")),
            ("sole", "", spot("s")), ("sole", "zz", spot("s")), ("sole", "m", spot("s", at=0)),
            ("sole", "m", spot("m")), ("sole", "m", thru("s")), ("sole", "m", 0), ("sole", None, spot("s")),
            ("sole", ["m"], spot("s")), ("sole", "m", spot("zz")), ("sole", "m", spot("p", 2)))

    def test_jumps(self):
        rows = (("say", 1), ("say", 2), GIVE)
        for k in (0, 1, 2, 3):
            self.right((main((("go", k),) + rows),))
            self.right((main((("if", 1, 2, k),) + rows),))
            self.right((main(rows + (("go", k),)),))
        for k in (-1, 4, 5, -4, 32, 10 ** 29, -10 ** 29, 10 ** 5000, -10 ** 5000, True, False, None, "0", "", (0,), 0.0):
            self.wrong((main((("go", k),) + rows),))
            self.wrong((main((("if", 1, 2, k),) + rows),))
            self.wrong((main(rows + (("go", k),)),))

    def test_jumps_within_the_function_alone(self):
        self.wrong((main((("go", 1),)), main((("say", 1), GIVE), name="b")))
        self.right((main((("go", 0),)), main((("say", 1), ("go", 1)), name="b")))

    def test_the_last_of_32_rows_is_there(self):
        rows = (("say", 1),) * 31
        self.right((main(rows + (("go", 31),)),))
        self.wrong((main(rows + (("go", 32),)),))

    def test_words_of_rows(self):
        for word in ("", "Put", "puts", "pu", "lent", "own", "rest", "hand", "take", "read", "turn", "empty", "->",
                     "go ", "num", "let", "fn"):
            self.wrong_rows((word, spot("x"), 1), (word, 0), (word, "r"), (word,))
        for word in (None, 0, True, ["go"], ("go",), {}):
            self.wrong_rows((word, 0))

    def test_rows_of_other_lengths(self):
        for row in (("put", spot("x"), 1), ("set", spot("x"), "+", 1, 2), ("fill", spot("s"), 0),
                    ("copy", spot("p"), spot("q")), ("move", spot("p"), spot("q")), ("drop", spot("o")),
                    ("lend", "l", spot("p")), ("sole", "m", spot("s")), ("call", "", "show", ("n", "r")),
                    ("if", 1, 2, 0), ("go", 0), ("say", 1), ("give", "r")):
            self.right_rows(row)
            self.wrong_rows(row[:-1], row + (0,), row + ("",), row + (spot("x"),), row + (None,), list(row))
        self.wrong_rows((), None, 0, "give", "go")


class CallTest(FormsTest):

    def test_calls(self):
        self.right_rows(
            ("call", "", "show", ("n", "r")), ("call", "", "show", ("x", "l")), ("call", "", "main", ()),
            ("call", "b", "make", ("o", "x")), ("call", "l", "pick", ("r", "w")), ("call", "r", "pick", ("l", "w")),
            ("call", "m", "edge", ("m",)), ("call", "l", "work", ("n", "r", "w", "o")),
            ("call", "r", "work", ("x", "r", "w", "o")))

    def test_the_function_called(self):
        for name in ("", "zz", "sho", "shows", "n", "r", "SHOW", None, 0, 1, ("show",), ["show"]):
            self.wrong_rows(("call", "", name, ("n", "r")))
            self.wrong_rows(("call", "", name, ()))

    def test_args(self):
        for args in ((), ("n",), ("n", "r", "r"), ("r", "n"), ("n", "w"), ("n", "p"), ("o", "r"), ("n", "e"),
                     ("p", "r"), ("n", ""), ("", ""), ("n", "zz"), ("k", "h"), ("n", "h"), ("n", 0), (0, "r"),
                     (spot("n"), thru("r")), (1, "r"), ("n", None), ("n", ["r"]), "nr", ["n", "r"], None, 2):
            self.wrong_rows(("call", "", "show", args))
        for args in (("n",), ("",), ((),)):
            self.wrong_rows(("call", "", "main", args))

    def test_args_of_the_word_of_the_param(self):
        for have in ("lent", "sole"):
            for asked in ("lent", "sole"):
                caller = main((("call", "", "f", ("h",)), GIVE), lets=(("h", (have, NUM)),))
                program = (caller, main(name="f", params=(("i", (asked, NUM)),)))
                self.assertIs(is_right(program), have == asked)
        owner = main((("call", "", "f", ("h",)), GIVE), lets=(("h", NUM),))
        self.wrong((owner, main(name="f", params=(("i", ("lent", NUM)),))))
        self.right((owner, main(name="f", params=(("i", NUM),))))

    def test_each_arg_is_looked_at(self):
        params = (("a", NUM), ("b", OWN), ("c", ("lent", NUM)), ("d", ("sole", NUM)))
        right = ("i", "j", "k", "l")
        lets = (("i", NUM), ("j", OWN), ("k", ("lent", NUM)), ("l", ("sole", NUM)))
        for place in range(4):
            for name in right:
                args = right[:place] + (name,) + right[place + 1:]
                caller = main((("call", "", "f", args), GIVE), lets=lets)
                self.assertIs(is_right((caller, main(name="f", params=params))), args == right)

    def test_an_arg_twice(self):
        params = (("a", NUM), ("b", NUM))
        caller = main((("call", "", "f", ("i", "i")), GIVE), lets=(("i", NUM),))
        self.right((caller, main(name="f", params=params)))

    def test_where_nothing_comes_back(self):
        for name in ("n", "r", "zz", "-", " ", "0", None, 0, False, (), ["n"]):
            self.wrong_rows(("call", name, "show", ("n", "r")))

    def test_where_an_owner_comes_back(self):
        for name in ("", "n", "o", "p", "w", "r", "zz", "c", None, 0, ["b"], spot("b")):
            self.wrong_rows(("call", name, "make", ("o", "n")))

    def test_where_a_holder_comes_back(self):
        for name in ("", "p", "q", "w", "e", "m", "n", "zz", "h", None, 0, ["l"], thru("l")):
            self.wrong_rows(("call", name, "pick", ("r", "w")))
        for name in ("", "s", "w", "r", "l", "zz"):
            self.wrong_rows(("call", name, "edge", ("m",)))

    def test_the_word_that_comes_back(self):
        for have in ("lent", "sole"):
            for asked in ("lent", "sole"):
                caller = main((("call", "h", "f", ()), GIVE), lets=(("h", (have, NUM)),))
                called = main((("give", "i"),), name="f", lets=(("i", (asked, NUM)),), result=(asked, NUM, ()))
                self.assertIs(is_right((caller, called)), have == asked)

    def test_functions_behind_and_ahead(self):
        self.right((main((("call", "", "b", ()), GIVE)), main((("call", "", "main", ()), GIVE), name="b")))
        self.right((main((("call", "", "main", ()), GIVE)),))


class GiveTest(FormsTest):

    def test_nothing(self):
        lets = (("x", NUM), ("h", ("lent", NUM)))
        self.right((main((GIVE,), lets=lets),))
        for name in ("x", "h", "zz", "-", " ", "None", None, 0, False, (), ["x"]):
            self.wrong((main((("give", name),), lets=lets),))

    def test_an_owner(self):
        lets = (("x", NUM), ("y", NUM), ("o", OWN), ("h", ("lent", NUM)), ("s", ("strip", 1)), ("p", ("rec", (NUM,))))
        for name in ("x", "y", "i"):
            self.right(with_function((("i", NUM),), NUM, lets, (("give", name),)))
        for name in ("", "o", "h", "s", "p", "zz", "work", None, 0, spot("x"), ["x"]):
            self.wrong(with_function((("i", NUM),), NUM, lets, (("give", name),)))

    def test_a_holder(self):
        lets = (("x", NUM), ("h", ("lent", NUM)), ("k", ("lent", OWN)), ("w", ("sole", NUM)))
        params = (("i", ("lent", NUM)), ("j", ("sole", NUM)))
        for sources in ((), ("i",), ("i", "j")):
            for name in ("i", "h"):
                self.right(with_function(params, ("lent", NUM, sources), lets, (("give", name),)))
            for name in ("j", "w"):
                self.right(with_function(params, ("sole", NUM, sources), lets, (("give", name),)))
            for name in ("", "x", "k", "j", "w", "zz", None, 0, thru("h"), ["h"]):
                self.wrong(with_function(params, ("lent", NUM, sources), lets, (("give", name),)))
            for name in ("", "x", "k", "i", "h", "zz"):
                self.wrong(with_function(params, ("sole", NUM, sources), lets, (("give", name),)))

    def test_each_give_is_looked_at(self):
        self.wrong((main((("give", "x"), GIVE), lets=(("x", NUM),)),))


class OtherThingsTest(FormsTest):

    def test_programs_that_are_no_tuples_of_functions(self):
        for program in (None, 0, "", "main", [], [main()], main(), (main(), None), ((),), (0,), ("main",),
                        (list(main()),), {}, (main()[:4],), (main() + ((),),)):
            self.wrong(program)

    def test_pieces_of_functions_of_other_kinds(self):
        for thing in (None, 0, "", "x", [], {}, ["x"], (0,), ("x",), (("x",),), (["x", NUM],), (("x", NUM, 0),),
                      ((0, NUM),), ((["x"], NUM),), ((None, NUM),)):
            self.wrong((main(params=thing),))
            self.wrong((main(lets=thing),))
        for rows in (None, 0, "", [GIVE], {}, (None,), (0,), ("give",), ((),)):
            self.wrong((main(rows),))
        for name in (None, 0, ["main"], ("main",), True):
            self.wrong((main(name=name),))

    def test_nothing_handed_in_is_kept_or_changed(self):
        program = with_row(("call", "l", "pick", ("r", "w")))
        before = repr(program)
        self.right(program)
        self.wrong(with_row(("call", "l", "pick", ("r",))))
        self.right(program)
        self.assertEqual(repr(program), before)


if __name__ == "__main__":
    unittest.main()
