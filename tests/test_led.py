"""Point 29: the machine led along a way."""

import unittest

from lendrule.errors import LendError, NoPart, NoWay
from lendrule.forms import is_right
from lendrule.machine import led
from pieces import DEED, GIVE, NUM, OWN, PAIR, STRIP, lent, named, sole, spot, start, thru, work

N = named(n=NUM)


class LedCase(unittest.TestCase):

    def led(self, program, way, at=1):
        self.assertTrue(is_right(program), program)
        return led(program, at, way)


class RowsTest(LedCase):

    def test_all_rows(self):
        program = work(("put", spot("x"), 1), ("say", spot("x")), GIVE, lets=named(x=NUM))
        self.assertEqual(self.led(program, [0, 1, 2]), (3, ""))
        self.assertEqual(self.led(program, [0, 1]), (2, ""))
        self.assertEqual(self.led(program, [0]), (1, ""))

    def test_a_fault(self):
        program = work(("say", 1), ("say", spot("x")), GIVE, lets=named(x=NUM))
        self.assertEqual(self.led(program, [0, 1, 2]), (1, "empty"))
        self.assertEqual(self.led(program, [0, 1]), (1, "empty"))
        self.assertEqual(self.led(program, [0]), (1, ""))
        program = work(("put", spot("x"), 1), ("lend", "q", spot("x")), ("put", spot("x"), 2), ("say", thru("q")), GIVE,
                       lets=named(x=NUM, q=lent(NUM)))
        self.assertEqual(self.led(program, [0, 1, 2, 3, 4]), (3, "stale"))

    def test_a_fault_at_the_first_row(self):
        program = work(("say", spot("x")), GIVE, lets=named(x=NUM))
        self.assertEqual(self.led(program, [0, 1]), (0, "empty"))

    def test_whatever_the_numbers(self):
        """1 is not less than 0, and still the way goes there; the loop goes on as often as is led."""
        program = work(("if", 1, 0, 2), ("drop", spot("x")), ("if", 0, 1, 0), GIVE, lets=named(x=NUM))
        self.assertEqual(self.led(program, [0, 2, 3]), (3, ""))
        self.assertEqual(self.led(program, [0, 2, 0, 2, 0, 2, 3]), (7, ""))
        self.assertEqual(self.led(program, [0, 1, 2, 3]), (1, "empty"))

    def test_long_ways(self):
        program = work(("go", 1), ("go", 0))
        self.assertEqual(self.led(program, [0, 1] * 5000), (10000, ""))

    def test_of_the_first_function(self):
        program = start(("say", spot("n")), GIVE, params=N)
        self.assertEqual(self.led(program, [0, 1], at=0), (2, ""))

    def test_a_call_off_the_way(self):
        program = work(("if", 0, 1, 2), ("call", "", "main", ()), GIVE)
        self.assertEqual(self.led(program, [0, 2]), (2, ""))


class ParamsTest(LedCase):

    def test_owners_are_full_of_blanks(self):
        program = work(("say", spot("a", 0)), ("put", spot("a", 1, at=2), 5), ("say", spot("a", 1, at="n")),
                       ("move", spot("y"), spot("x")), GIVE,
                       params=named(a=PAIR, n=NUM, x=DEED), lets=named(y=DEED))
        self.assertEqual(self.led(program, [0, 1, 2, 3, 4]), (5, ""))

    def test_holders_hold_boxes_of_their_own(self):
        program = work(("put", thru("r", 0), 1), ("put", thru("r", 1, at=1), 2), ("say", thru("q", 0)),
                       ("sole", "t", thru("r", 1)), ("fill", thru("t"), 5), ("say", thru("r", 1, at=0)),
                       ("say", thru("q", 1, at=2)), GIVE,
                       params=named(r=sole(PAIR), q=lent(PAIR)), lets=named(t=sole(STRIP)))
        self.assertEqual(self.led(program, list(range(8))), (8, ""))
        program = work(("sole", "t", thru("r")), ("put", thru("r"), 1), ("put", thru("t"), 1), GIVE,
                       params=named(r=sole(NUM)), lets=named(t=sole(NUM)))
        self.assertEqual(self.led(program, [0, 1, 2, 3]), (2, "stale"))

    def test_a_give_leaves_them(self):
        program = work(("give", "r"), params=named(r=sole(PAIR)), result=("sole", PAIR, ("r",)))
        self.assertEqual(self.led(program, [0]), (1, ""))
        program = work(("lend", "q", thru("p")), ("give", "q"), params=named(p=lent(NUM)), lets=named(q=lent(NUM)),
                       result=("lent", NUM, ()))
        self.assertEqual(self.led(program, [0, 1]), (2, ""))

    def test_a_give_lets_the_functions_owners_go(self):
        for own in ("params", "lets"):
            program = work(("put", spot("x"), 1), ("lend", "q", spot("x")), ("give", "q"), result=("lent", NUM, ()),
                           params=named(x=NUM) if own == "params" else (),
                           lets=named(q=lent(NUM)) + (named(x=NUM) if own == "lets" else ()))
            self.assertEqual(self.led(program, [0, 1, 2]), (2, "stale"))

    def test_a_give_of_owners(self):
        program = work(("give", "x"), params=named(x=OWN), result=OWN)
        self.assertEqual(self.led(program, [0]), (1, ""))
        program = work(("give", "x"), lets=named(x=OWN), result=OWN)
        self.assertEqual(self.led(program, [0]), (0, "empty"))

    def test_lets_are_empty(self):
        program = work(("say", thru("q")), GIVE, lets=named(q=lent(NUM)))
        self.assertEqual(self.led(program, [0, 1]), (0, "empty"))


class NoWayTest(LedCase):

    def refused(self, program, way, at=1):
        with self.assertRaises(NoWay) as caught:
            self.led(program, way, at)
        self.assertIsInstance(caught.exception, LendError)
        self.assertNotIsInstance(caught.exception, NoPart)

    def test_no_rows(self):
        self.refused(work(GIVE), [])

    def test_another_first_row(self):
        self.refused(work(("go", 1), GIVE), [1])
        self.refused(work(("go", 1), GIVE), [1, 0])
        self.refused(work(("go", 1), GIVE), [-1])

    def test_no_next(self):
        program = work(("say", 1), ("if", 0, 1, 0), ("go", 1), GIVE)
        for way in ([0, 2], [0, 0], [0, 1, 3], [0, 1, 2, 3], [0, 1, 2, 0], [0, 4], [0, 1, 2, 1, -1], [0, -3]):
            with self.subTest(way):
                self.refused(program, way)

    def test_nothing_is_behind_a_give(self):
        self.refused(work(GIVE, GIVE), [0, 1])
        self.refused(work(GIVE), [0, 0])

    def test_rows_that_are_not_there(self):
        self.refused(work(("say", 1), GIVE), [0, 1, 2])
        self.refused(work(GIVE), [7])

    def test_a_call(self):
        program = work(("say", 1), ("call", "", "main", ()), GIVE)
        self.refused(program, [0, 1])
        self.refused(program, [0, 1, 2])
        self.assertEqual(self.led(program, [0]), (1, ""))
        self.refused(work(("call", "", "main", ()), GIVE), [0])

    def test_ahead_of_a_fault(self):
        """Row 0 would fault: but the list is none of the ways."""
        self.refused(work(("say", spot("x")), GIVE, lets=named(x=NUM)), [0, 0])


class TellingTest(LedCase):

    def test_the_way_stays(self):
        program = work(("go", 1), GIVE)
        way = [0, 1]
        self.assertEqual(self.led(program, way), (2, ""))
        self.assertEqual(way, [0, 1])
        self.assertEqual(led(program=program, at=1, way=way), (2, ""))

    def test_a_claims_way(self):
        self.assertEqual(self.led(work(("go", 1), GIVE), (0, 1)), (2, ""))


if __name__ == "__main__":
    unittest.main()
