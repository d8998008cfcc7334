"""Points 2 and 4 to 7: shapes, parts, paths, copied, blank."""

import itertools
import unittest

from lendrule.errors import LendError, NoPart
from lendrule.shapes import blank, first, is_copied, is_shape, is_whole, leaves, meets, part, paths

NUM = ("num",)
OWN = ("own",)
STRIP = ("strip", 3)


def rec(*parts):
    return ("rec", parts)


def nested(shape, many):
    for _ in range(many):
        shape = rec(shape)
    return shape


PAIR = rec(NUM, OWN)
RICH = rec(STRIP, rec(rec(NUM, OWN), NUM), OWN)
HUGE = 10 ** 29 + 7

SHAPES = [
    NUM, OWN, STRIP, ("strip", 1), ("strip", 8), rec(NUM), PAIR, RICH,
    rec(NUM, OWN, STRIP, NUM), nested(NUM, 3), rec(PAIR, PAIR, PAIR, PAIR),
    rec(rec(rec(NUM, NUM), rec(OWN)), rec(STRIP, NUM), OWN),
]


class Touchy:
    """Something that can be neither compared, looked up, measured nor asked whether it is true."""

    __hash__ = None

    def __eq__(self, other):
        raise RuntimeError

    def __bool__(self):
        raise RuntimeError

    def __len__(self):
        raise RuntimeError

    def __lt__(self, other):
        raise RuntimeError


class WholeTest(unittest.TestCase):

    def test_ints_are_whole(self):
        for thing in (0, 1, -1, 10 ** 29, -10 ** 5000):
            self.assertIs(is_whole(thing), True)

    def test_truths_and_others_are_not(self):
        for thing in (True, False, None, "1", "", 1.0, (1,), [1], Touchy()):
            self.assertIs(is_whole(thing), False)


class IsShapeTest(unittest.TestCase):

    def yes(self, thing):
        self.assertIs(is_shape(thing), True, repr(thing)[:200])

    def no(self, thing):
        self.assertIs(is_shape(thing), False)
        # What is no shape makes no shape whole, wherever it stands.
        for parts in ((thing,), (NUM, thing), (thing, NUM, NUM), (NUM, NUM, NUM, thing)):
            self.assertIs(is_shape(("rec", parts)), False)
        self.assertIs(is_shape(rec(rec(NUM, NUM, thing), NUM, NUM)), False)

    def test_shapes(self):
        for shape in SHAPES:
            self.yes(shape)

    def test_leaves_of_one_word(self):
        self.yes(("num",))
        self.yes(("own",))
        self.no(("strip",))
        self.no(("rec",))

    def test_length_of_a_strip(self):
        for n in range(1, 9):
            self.yes(("strip", n))
        for n in (0, 9, -1, -8, 10 ** 30, -10 ** 30, 10 ** 5000):
            self.no(("strip", n))

    def test_length_of_a_strip_that_is_no_number(self):
        for n in (True, False, None, "1", "", 1.0, (1,), [1], {}, Touchy()):
            self.no(("strip", n))

    def test_number_of_parts(self):
        self.no(rec())
        for many in range(1, 5):
            self.yes(rec(*[NUM] * many))
        self.no(rec(*[NUM] * 5))
        self.no(rec(*[NUM] * 1000))

    def test_number_of_parts_further_in(self):
        self.no(rec(NUM, rec()))
        self.no(rec(NUM, rec(NUM, NUM, NUM, NUM, NUM)))

    def test_depth(self):
        for many in range(4):
            self.yes(nested(NUM, many))
        self.no(nested(NUM, 4))

    def test_depth_is_that_of_the_deepest_part(self):
        self.yes(rec(NUM, nested(NUM, 2)))
        self.no(rec(NUM, nested(NUM, 3)))
        self.yes(rec(nested(NUM, 2), NUM))
        self.no(rec(nested(NUM, 3), NUM))

    def test_number_of_leaves(self):
        four = rec(NUM, NUM, NUM, NUM)
        self.yes(rec(four, four))
        self.no(rec(four, four, NUM))
        self.no(rec(four, rec(NUM, NUM), rec(OWN, OWN, STRIP)))
        self.yes(rec(PAIR, PAIR, PAIR, PAIR))
        self.no(rec(PAIR, PAIR, PAIR, rec(NUM, NUM, NUM)))
        self.no(rec(four, four, four, four))

    def test_a_strip_is_one_leaf_whatever_its_length(self):
        strips = rec(*[("strip", 8)] * 4)
        self.yes(rec(strips, strips))

    def test_things_that_are_no_tuples(self):
        for thing in (None, True, False, 0, 1, -5, 1.5, "", "num", "own", "strip", b"num", [], {}, {1}, object(),
                      frozenset(), range(3), is_shape, Touchy(), ["num"], ["strip", 3], ["rec", (NUM,)]):
            self.no(thing)

    def test_tuples_of_other_lengths(self):
        for thing in ((), ("num", 1), ("own", 1), ("num", ()), ("num", None), ("strip", 3, 3), ("rec", (NUM,), ()),
                      ("rec", NUM, NUM), ("num", "num"), ("num",) * 3):
            self.no(thing)

    def test_other_words(self):
        for word in ("", "n", "nu", "Num", "NUM", "num ", " num", "numb", "lent", "sole", "num\n", "0"):
            self.no((word,))
            self.no((word, 3))
            self.no((word, (NUM,)))
            self.no((word, NUM))

    def test_words_that_are_no_texts(self):
        for word in (None, True, 0, b"num", ["num"], ("num",), {}, Touchy()):
            self.no((word,))
            self.no((word, 3))
            self.no((word, (NUM,)))

    def test_lists_in_the_place_of_tuples(self):
        self.no(("rec", [NUM]))
        self.no(("rec", [NUM, NUM]))
        self.no(rec(["num"]))
        self.no(rec(NUM, ["strip", 3]))
        self.no(rec(NUM, ["rec", (NUM,)]))
        self.no([("num",)])

    def test_parts_that_are_no_shapes(self):
        for parts in (None, 0, 3, "num", "", {}, {"num": 1}, Touchy(), NUM, (3,), ("num", "num"), ((),), (None,)):
            self.no(("rec", parts))

    def test_a_hundred_levels(self):
        self.no(nested(NUM, 100))
        self.no(nested((), 100))
        self.no(nested(None, 100))
        thing = []
        for _ in range(100):
            thing = [thing]
        self.no(thing)
        self.no(("rec", thing))
        thing = ()
        for _ in range(100):
            thing = (thing,)
        self.no(thing)
        self.no(("strip", thing))

    def test_a_hundred_levels_of_four_alike(self):
        thing = NUM
        for _ in range(100):
            thing = rec(thing, thing, thing, thing)
        self.no(thing)

    def test_all_recs_of_small_shapes(self):
        # The numbers of leaves and depths are given with the shapes and not asked of the program.
        small = [(NUM, 1, 0), (("strip", 9), None, 0), (nested(OWN, 1), 1, 1), (rec(*[NUM] * 4), 4, 1),
                 (nested(STRIP, 2), 1, 2), (rec(nested(NUM, 2), NUM), 2, 3), (nested(NUM, 3), 1, 3)]
        for many in range(1, 6):
            for chosen in itertools.combinations_with_replacement(small, many):
                sound = all(count is not None and deep <= 2 for _, count, deep in chosen)
                fits = sound and many <= 4 and sum(count for _, count, _ in chosen) <= 8
                self.assertIs(is_shape(rec(*[shape for shape, _, _ in chosen])), fits)


class LeavesTest(unittest.TestCase):

    def test_a_leaf_has_itself(self):
        for leaf in (NUM, OWN, STRIP, ("strip", 1)):
            self.assertEqual(leaves(leaf), (leaf,))

    def test_from_left_to_right_each_as_it_stands(self):
        self.assertEqual(leaves(PAIR), (NUM, OWN))
        self.assertEqual(leaves(RICH), (STRIP, NUM, OWN, NUM, OWN))
        self.assertEqual(leaves(nested(STRIP, 3)), (STRIP,))
        self.assertEqual(leaves(rec(("strip", 1), rec(("strip", 2), OWN), ("strip", 3))),
                         (("strip", 1), ("strip", 2), OWN, ("strip", 3)))

    def test_is_a_tuple(self):
        for shape in SHAPES:
            self.assertIsInstance(leaves(shape), tuple)

    def test_somewhat_beyond_the_bounds(self):
        self.assertEqual(leaves(nested(OWN, 5)), (OWN,))
        self.assertEqual(leaves(rec(*[NUM] * 9)), (NUM,) * 9)


class PartTest(unittest.TestCase):

    def test_the_shape_itself(self):
        for shape in SHAPES:
            self.assertEqual(part(shape, ()), shape)
            self.assertEqual(first(shape, ()), 0)

    def test_into_recs_in_recs(self):
        told = {
            (0,): (STRIP, 0),
            (1,): (rec(PAIR, NUM), 1),
            (1, 0): (PAIR, 1),
            (1, 0, 0): (NUM, 1),
            (1, 0, 1): (OWN, 2),
            (1, 1): (NUM, 3),
            (2,): (OWN, 4),
        }
        for path, (shape, number) in told.items():
            with self.subTest(path):
                self.assertEqual(part(RICH, path), shape)
                self.assertEqual(first(RICH, path), number)
                self.assertIs(type(first(RICH, path)), int)

    def test_the_leaves_of_a_part_stand_in_a_row(self):
        for shape in SHAPES:
            for path in paths(shape):
                own = leaves(part(shape, path))
                number = first(shape, path)
                self.assertEqual(leaves(shape)[number:number + len(own)], own)

    def test_paths_that_lead_nowhere(self):
        wrong = [(-1,), (3,), (4,), (-3,), (1, 2), (1, -1), (1, -2), (1, 0, 2), (1, 0, -1), (-2, 0),
                 (0, 0), (2, 0), (1, 1, 0), (1, 0, 0, 0), (1, 0, 1, -1), (0, -1), (3, 0), (0, 0, 0),
                 (HUGE,), (-HUGE,), (1, HUGE), (1, -HUGE), (0, HUGE), (2, -HUGE), (1, 0, HUGE)]
        for path in wrong:
            with self.subTest(path):
                with self.assertRaises(NoPart):
                    part(RICH, path)
                with self.assertRaises(NoPart):
                    first(RICH, path)

    def test_a_leaf_has_no_parts(self):
        for leaf in (NUM, OWN, STRIP, ("strip", 1)):
            for path in ((0,), (1,), (-1,), (0, 0), (HUGE,), (-HUGE,)):
                with self.subTest(leaf=leaf, path=path):
                    with self.assertRaises(NoPart):
                        part(leaf, path)
                    with self.assertRaises(NoPart):
                        first(leaf, path)

    def test_a_number_too_long_to_be_written(self):
        for number in (10 ** 5000, -10 ** 5000):
            for shape in (NUM, PAIR):
                with self.assertRaises(NoPart):
                    part(shape, (number,))
                with self.assertRaises(NoPart):
                    first(shape, (number,))

    def test_the_refusal_is_a_lend_error(self):
        with self.assertRaises(LendError):
            part(NUM, (0,))


class PathsTest(unittest.TestCase):

    def test_a_leaf_has_one(self):
        for leaf in (NUM, OWN, STRIP):
            self.assertEqual(paths(leaf), [()])

    def test_order(self):
        self.assertEqual(paths(PAIR), [(), (0,), (1,)])
        self.assertEqual(paths(RICH), [(), (0,), (1,), (1, 0), (1, 0, 0), (1, 0, 1), (1, 1), (2,)])
        self.assertEqual(paths(nested(NUM, 3)), [(), (0,), (0, 0), (0, 0, 0)])
        self.assertEqual(paths(rec(rec(NUM, NUM), rec(NUM))), [(), (0,), (0, 0), (0, 1), (1,), (1, 0)])

    def test_all_that_lead_somewhere_and_no_others(self):
        for shape in SHAPES:
            some = []
            for many in range(5):
                for path in itertools.product(range(-1, 5), repeat=many):
                    try:
                        part(shape, path)
                    except NoPart:
                        continue
                    some.append(path)
            self.assertEqual(sorted(paths(shape)), sorted(some))

    def test_the_list_is_the_askers_own(self):
        for shape in (NUM, RICH):
            told = paths(shape)
            before = list(told)
            self.assertIsInstance(told, list)
            again = paths(shape)
            self.assertIsNot(again, told)
            again.append((9, 9))
            again[0] = None
            self.assertEqual(told, before)
            told.clear()
            self.assertEqual(paths(shape), before)

    def test_meets(self):
        for path, other in [((), ()), ((), (1,)), ((0,), (0,)), ((1,), (1, 0)), ((1, 0), (1, 0, 1)), ((), (1, 2, 3)),
                            ((2, 1), (2, 1))]:
            self.assertIs(meets(path, other), True)
            self.assertIs(meets(other, path), True)

    def test_meets_not(self):
        for path, other in [((0,), (1,)), ((0,), (1, 0)), ((1, 0), (1, 1)), ((0, 1), (1, 0)), ((0, 1), (1,)),
                            ((1, 0, 0), (1, 1)), ((0, 0), (1, 0)), ((0,), (1, 0, 0))]:
            self.assertIs(meets(path, other), False)
            self.assertIs(meets(other, path), False)

    def test_meets_just_where_a_leaf_is_in_common(self):
        for shape in SHAPES:
            spans = {}
            for path in paths(shape):
                begin = first(shape, path)
                spans[path] = set(range(begin, begin + len(leaves(part(shape, path)))))
            for path in spans:
                for other in spans:
                    # Parts nested alone in a rec have the same leaves, and one path begins the other.
                    self.assertIs(meets(path, other), bool(spans[path] & spans[other]))


class CopiedAndBlankTest(unittest.TestCase):

    def test_copied(self):
        for shape in (NUM, STRIP, rec(NUM), rec(NUM, STRIP), nested(STRIP, 3), rec(rec(NUM, NUM), rec(STRIP), NUM)):
            self.assertIs(is_copied(shape), True)

    def test_not_copied(self):
        for shape in (OWN, rec(OWN), PAIR, rec(OWN, NUM), RICH, nested(OWN, 3), rec(rec(rec(NUM, OWN)), NUM),
                      rec(NUM, rec(NUM, rec(NUM, OWN)))):
            self.assertIs(is_copied(shape), False)

    def test_an_own_at_each_place(self):
        for place in range(8):
            four = [[NUM, STRIP, NUM, STRIP], [STRIP, NUM, NUM, NUM]]
            four[place // 4][place % 4] = OWN
            self.assertIs(is_copied(rec(rec(*four[0]), rec(*four[1]))), False)

    def test_blank(self):
        self.assertEqual(blank(NUM), (0,))
        self.assertEqual(blank(OWN), (0,))
        self.assertEqual(blank(("strip", 1)), ((0,),))
        self.assertEqual(blank(("strip", 8)), ((0,) * 8,))
        self.assertEqual(blank(PAIR), (0, 0))
        self.assertEqual(blank(RICH), ((0, 0, 0), 0, 0, 0, 0))
        self.assertEqual(blank(rec(NUM, rec(("strip", 2), OWN), ("strip", 1))), (0, (0, 0), 0, (0,)))

    def test_blanks_are_tuples_of_whole_numbers(self):
        for shape in SHAPES:
            told = blank(shape)
            self.assertIs(type(told), tuple)
            self.assertEqual(len(told), len(leaves(shape)))
            for leaf, value in zip(leaves(shape), told):
                self.assertIs(type(value), tuple if leaf[0] == "strip" else int)
                for number in value if leaf[0] == "strip" else (value,):
                    self.assertIs(type(number), int)


if __name__ == "__main__":
    unittest.main()
