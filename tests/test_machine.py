"""Points 26 and 27: what rows do to boxes, tags and holders, and what a run tells."""

import unittest

from lendrule.forms import is_right
from lendrule.machine import run
from pieces import DEED, GIVE, NUM, OWN, PAIR, STRIP, lent, named, sole, spot, start, thru

BOUND = 10 ** 30
N = named(n=NUM)


class MachineCase(unittest.TestCase):

    def told(self, program, *inputs, most=400):
        self.assertTrue(is_right(program), program)
        return run(program, list(inputs), most)

    def says(self, program, said, inputs=()):
        """The run ends done, with these numbers said."""
        end, numbers, _, fault = self.told(program, *inputs)
        self.assertEqual((end, numbers, fault), ("done", said, ()))

    def faults(self, program, kind, row, at=0, said=(), inputs=()):
        """The run ends with this fault; all rows of the first function ahead of it were done, each once."""
        end, numbers, count, fault = self.told(program, *inputs)
        self.assertEqual((end, numbers, fault), ("fault", list(said), (kind, at, row)))
        if at == 0:
            self.assertEqual(count, row)


class NumbersTest(MachineCase):

    def test_put_and_say(self):
        self.says(start(("say", 7), ("put", spot("a"), 5), ("say", spot("a")), ("put", spot("a"), spot("n")),
                        ("say", spot("a")), GIVE, params=N, lets=named(a=NUM)), [7, 5, 3], [3])

    def test_put_into_parts(self):
        self.says(start(("put", spot("x", 0), 5), ("put", spot("x", 1), spot("x", 0)), ("put", spot("x", 0), 6),
                        ("say", spot("x", 0)), ("say", spot("x", 1)), GIVE, lets=named(x=DEED)), [6, 5])

    def test_set(self):
        pairs = ((3, 5), (BOUND - 1, 2), (BOUND // 2, 7))
        rows = [("set", spot("a"), sign, one, other) for sign in "+-*" for one, other in pairs]
        rows = [row for one in rows for row in (one, ("say", spot("a")))]
        self.says(start(*rows, GIVE, lets=named(a=NUM)),
                  [8, 1, BOUND // 2 + 7, BOUND - 2, BOUND - 3, BOUND // 2 - 7, 15, BOUND - 2, BOUND // 2])

    def test_set_of_itself(self):
        self.says(start(("set", spot("n"), "*", spot("n"), spot("n")), ("set", spot("n"), "-", spot("n"), 1),
                        ("say", spot("n")), GIVE, params=N), [24], [5])

    def test_largest_numbers(self):
        self.says(start(("put", spot("a"), BOUND - 1), ("set", spot("a"), "*", spot("a"), spot("a")),
                        ("say", spot("a")), ("say", spot("n")), GIVE, params=N, lets=named(a=NUM)),
                  [1, BOUND - 1], [BOUND - 1])

    def test_params_in_their_order(self):
        self.says(start(("say", spot("b")), ("say", spot("a")), GIVE, params=named(a=NUM, b=NUM)), [2, 1], [1, 2])


class StripsTest(MachineCase):

    def test_fill(self):
        self.says(start(("fill", spot("s"), spot("n")), ("say", spot("s", at=0)), ("say", spot("s", at=2)), GIVE,
                        params=N, lets=named(s=STRIP)), [4, 4], [4])

    def test_places_by_number(self):
        self.says(start(("fill", spot("s"), 0), ("put", spot("s", at=1), 5), ("set", spot("s", at=2), "+", 1, 1),
                        ("say", spot("s", at=0)), ("say", spot("s", at=1)), ("say", spot("s", at=2)), GIVE,
                        lets=named(s=STRIP)), [0, 5, 2])

    def test_places_by_name_are_what_is_left(self):
        rows = (("fill", spot("s"), 0), ("put", spot("s", at=0), 10), ("put", spot("s", at=1), 11),
                ("put", spot("s", at=2), 12), ("say", spot("s", at="n")), ("put", spot("s", at="n"), 20),
                ("say", spot("s", at=0)), ("say", spot("s", at=1)), ("say", spot("s", at=2)), GIVE)
        for number, place in ((0, 0), (2, 2), (3, 0), (4, 1), (BOUND - 1, 0), (BOUND - 2, 2)):
            said = [10 + place, 10, 11, 12]
            said[1 + place] = 20
            self.says(start(*rows, params=N, lets=named(s=STRIP)), said, [number])

    def test_the_place_is_told_ahead_of_the_write(self):
        """The operand's place is by the old number; so is T's, where T is not the name itself."""
        self.says(start(("fill", spot("s"), 0), ("put", spot("s", at=1), 2), ("put", spot("n"), spot("s", at="n")),
                        ("say", spot("n")), ("put", spot("s", at="n"), spot("n")), ("say", spot("s", at=2)), GIVE,
                        params=N, lets=named(s=STRIP)), [2, 2], [1])

    def test_strips_in_recs_and_through_holders(self):
        self.says(start(("put", spot("x", 0), 1), ("fill", spot("x", 1), 6), ("sole", "r", spot("x")),
                        ("put", thru("r", 1, at="n"), 7), ("say", thru("r", 1, at=1)), ("say", thru("r", 1, at=2)),
                        ("fill", thru("r", 1), thru("r", 1, at="n")), ("put", thru("r", 0), 3),
                        ("say", spot("x", 1, at=0)), ("say", spot("x", 0)), GIVE,
                        params=N, lets=named(x=PAIR, r=sole(PAIR))), [6, 7, 7, 3], [5])


class PartsTest(MachineCase):

    def test_copy(self):
        self.says(start(("put", spot("x", 0), 1), ("fill", spot("x", 1), 2), ("copy", spot("y"), spot("x")),
                        ("put", spot("x", 0), 3), ("put", spot("x", 1, at=0), 4), ("say", spot("y", 0)),
                        ("say", spot("y", 1, at=0)), ("say", spot("x", 0)), ("say", spot("x", 1, at=0)), GIVE,
                        lets=named(x=PAIR, y=PAIR)), [1, 2, 3, 4])

    def test_copy_through_holders(self):
        self.says(start(("put", spot("x", 0), 1), ("fill", spot("x", 1), 2), ("lend", "q", spot("x", 1)),
                        ("fill", spot("s"), 5), ("sole", "r", spot("s")), ("copy", thru("r"), thru("q")),
                        ("say", spot("s", at=2)), ("say", thru("q", at=2)), GIVE,
                        lets=named(x=PAIR, s=STRIP, r=sole(STRIP), q=lent(STRIP))), [2, 2])

    def test_copy_to_itself(self):
        self.says(start(("copy", spot("n"), spot("n")), ("say", spot("n")), GIVE, params=N), [9], [9])

    def test_move_leaves_it_empty(self):
        rows = (("put", spot("x"), 5), ("move", spot("y"), spot("x")), ("say", spot("y")))
        self.says(start(*rows, GIVE, lets=named(x=OWN, y=OWN)), [5])
        self.faults(start(*rows, ("say", spot("x")), GIVE, lets=named(x=OWN, y=OWN)), "empty", 3, said=[5])

    def test_move_of_what_could_be_copied_leaves_it_empty(self):
        self.faults(start(("move", spot("a"), spot("n")), ("say", spot("a")), ("say", spot("n")), GIVE, params=N,
                          lets=named(a=NUM)), "empty", 2, said=[8], inputs=[8])

    def test_move_to_itself_stays(self):
        self.says(start(("put", spot("x"), 5), ("move", spot("x"), spot("x")), ("say", spot("x")), GIVE,
                        lets=named(x=OWN)), [5])

    def test_move_of_a_part(self):
        self.faults(start(("put", spot("x", 0), 1), ("put", spot("x", 1), 2), ("move", spot("y"), spot("x", 1)),
                          ("say", spot("x", 0)), ("say", spot("y")), ("say", spot("x", 1)), GIVE,
                          lets=named(x=DEED, y=OWN)), "empty", 5, said=[1, 2])

    def test_move_through_a_holder(self):
        self.says(start(("put", spot("x"), 1), ("put", spot("y"), 2), ("sole", "r", spot("y")),
                        ("move", thru("r"), spot("x")), ("say", thru("r")), ("say", spot("y")), GIVE,
                        lets=named(x=OWN, y=OWN, r=sole(OWN))), [1, 1])

    def test_drop(self):
        self.faults(start(("put", spot("x"), 1), ("drop", spot("x")), ("say", spot("x")), GIVE, lets=named(x=NUM)),
                    "empty", 2)
        self.says(start(("put", spot("x"), 1), ("drop", spot("x")), ("put", spot("x"), 2), ("say", spot("x")), GIVE,
                        lets=named(x=NUM)), [2])


class EmptyTest(MachineCase):

    def test_lets_are_empty(self):
        for row in (("say", spot("a")), ("put", spot("b"), spot("a")), ("set", spot("b"), "+", 1, spot("a")),
                    ("copy", spot("b"), spot("a")), ("move", spot("b"), spot("a")), ("drop", spot("a")),
                    ("lend", "q", spot("a")), ("sole", "r", spot("a")), ("if", spot("a"), 1, 0),
                    ("put", spot("s", at=1), 2), ("say", spot("s", at=1)), ("if", 1, spot("a"), 0)):
            with self.subTest(row):
                self.faults(start(row, GIVE, lets=named(a=NUM, b=NUM, s=STRIP, q=lent(NUM), r=sole(NUM))), "empty", 0)

    def test_what_is_written_whole_may_be_empty(self):
        self.says(start(("put", spot("a"), 1), ("fill", spot("s"), 1), ("copy", spot("b"), spot("a")), GIVE,
                        lets=named(a=NUM, b=NUM, s=STRIP)), [])

    def test_holders_that_hold_nothing(self):
        lets = named(a=NUM, s=STRIP, q=lent(NUM), r=sole(NUM), t=sole(STRIP))
        for row in (("say", thru("q")), ("say", thru("r")), ("put", thru("r"), 1), ("set", thru("r"), "+", 1, 1),
                    ("fill", thru("t"), 1), ("put", thru("t", at=0), 1), ("lend", "q", thru("q")),
                    ("lend", "q", thru("r")), ("sole", "r", thru("r")), ("copy", thru("r"), thru("q")),
                    ("put", spot("a"), thru("q"))):
            with self.subTest(row):
                self.faults(start(row, GIVE, lets=lets), "empty", 0)

    def test_a_row_may_put_first_what_it_reads_then(self):
        """The acts come in their order: the operands ahead of T."""
        self.faults(start(("put", spot("a"), spot("a")), GIVE, lets=named(a=NUM)), "empty", 0)

    def test_an_at_that_is_empty(self):
        self.faults(start(("fill", spot("s"), 1), ("say", spot("s", at="a")), GIVE, lets=named(a=NUM, s=STRIP)),
                    "empty", 1)
        self.faults(start(("fill", spot("s"), 1), ("put", spot("s", at="a"), 1), GIVE, lets=named(a=NUM, s=STRIP)),
                    "empty", 1)

    def test_a_part_of_a_rec_that_is_empty(self):
        self.faults(start(("put", spot("x", 0), 1), ("copy", spot("y"), spot("x")), GIVE,
                          lets=named(x=PAIR, y=PAIR)), "empty", 1)


class LendingTest(MachineCase):
    """The two lendings, and which touches leave whose tags standing."""

    def owned(self, *rows, **lets):
        """Row 0 fills x with 1."""
        return start(("put", spot("x"), 1), *rows, GIVE, lets=named(x=NUM, **lets))

    def test_many_read(self):
        self.says(self.owned(("lend", "q", spot("x")), ("lend", "r", spot("x")), ("lend", "s", thru("q")),
                             ("say", thru("q")), ("say", thru("s")), ("say", spot("x")), ("say", thru("r")),
                             ("say", thru("q")), q=lent(NUM), r=lent(NUM), s=lent(NUM)), [1] * 5)

    def test_a_write_ends_what_is_lent(self):
        for row in (("put", spot("x"), 2), ("drop", spot("x")), ("move", spot("x"), spot("x")),
                    ("sole", "r", spot("x")), ("copy", spot("x"), spot("x"))):
            with self.subTest(row):
                self.faults(self.owned(("lend", "q", spot("x")), ("say", thru("q")), row, ("say", thru("q")),
                                       q=lent(NUM), r=sole(NUM)), "stale", 4, said=[1])

    def test_one_alone_writes(self):
        self.says(self.owned(("sole", "r", spot("x")), ("put", thru("r"), 5), ("say", thru("r")), ("say", spot("x")),
                             r=sole(NUM)), [5, 5])

    def test_a_read_ends_who_has_it_alone(self):
        for row in (("say", spot("x")), ("lend", "q", spot("x")), ("put", spot("x"), 1), ("copy", spot("y"), spot("x")),
                    ("sole", "s", spot("x")), ("if", spot("x"), 0, 0)):
            with self.subTest(row):
                self.faults(self.owned(("sole", "r", spot("x")), ("put", thru("r"), 5), row, ("put", thru("r"), 6),
                                       r=sole(NUM), s=sole(NUM), q=lent(NUM), y=NUM),
                            "stale", 4, said=[5] if row[0] == "say" else [])

    def test_lent_on_and_back(self):
        self.says(self.owned(("sole", "r", spot("x")), ("sole", "s", thru("r")), ("put", thru("s"), 5),
                             ("lend", "q", thru("s")), ("say", thru("q")), ("say", thru("s")), ("put", thru("r"), 6),
                             ("say", spot("x")), r=sole(NUM), s=sole(NUM), q=lent(NUM)), [5, 5, 6])

    def test_lent_on_ends_with_whom_it_came_from(self):
        lets = {"r": sole(NUM), "s": sole(NUM), "q": lent(NUM)}
        rows = (("sole", "r", spot("x")), ("sole", "s", thru("r")), ("lend", "q", thru("s")))
        self.faults(self.owned(*rows, ("put", thru("r"), 2), ("say", thru("q")), **lets), "stale", 5)
        self.faults(self.owned(*rows, ("put", thru("r"), 2), ("say", thru("s")), **lets), "stale", 5)
        self.faults(self.owned(*rows, ("say", spot("x")), ("say", thru("r")), **lets), "stale", 5, said=[1])
        self.faults(self.owned(*rows, ("say", thru("r")), ("say", thru("q")), **lets), "stale", 5, said=[1])
        self.says(self.owned(*rows, ("say", thru("s")), ("say", thru("q")), **lets), [1, 1])

    def test_what_is_lent_to_many_below_one_alone_stays_for_reads(self):
        """q's tag is below r's: who reads by x takes r's away, and leaves q's."""
        lets = {"r": sole(NUM), "q": lent(NUM), "s": lent(NUM)}
        self.says(self.owned(("lend", "q", spot("x")), ("lend", "s", spot("x")), ("say", spot("x")),
                             ("say", thru("q")), **lets), [1, 1])

    def test_lent_on_to_the_same_holder(self):
        self.says(self.owned(("sole", "r", spot("x")), ("sole", "r", thru("r")), ("put", thru("r"), 4),
                             ("sole", "r", thru("r")), ("say", thru("r")), ("say", spot("x")), r=sole(NUM)), [4, 4])
        self.says(self.owned(("lend", "q", spot("x")), ("lend", "q", thru("q")), ("say", thru("q")), q=lent(NUM)), [1])

    def test_a_new_lending_ends_the_old_hold(self):
        self.says(start(("put", spot("x"), 1), ("put", spot("y"), 2), ("sole", "r", spot("x")),
                        ("sole", "r", spot("y")), ("put", thru("r"), 3), ("say", spot("x")), ("put", thru("r"), 4),
                        ("say", spot("y")), GIVE, lets=named(x=NUM, y=NUM, r=sole(NUM))), [1, 4])

    def test_leaf_by_leaf(self):
        """A touch of one leaf leaves the holder's others."""
        rows = (("put", spot("x", 0), 1), ("fill", spot("x", 1), 2), ("sole", "r", spot("x")),
                ("put", spot("x", 0), 5), ("put", thru("r", 1, at=0), 7), ("say", spot("x", 1, at=0)))
        lets = named(x=PAIR, r=sole(PAIR), q=lent(STRIP))
        self.says(start(*rows, GIVE, lets=lets), [7])
        self.faults(start(*rows[:4], ("say", thru("r", 0)), GIVE, lets=lets), "stale", 4)
        self.faults(start(*rows[:4], ("lend", "q", thru("r", 1)), ("say", thru("q", at=0)), ("say", thru("r", 0)),
                          GIVE, lets=lets), "stale", 6, said=[2])

    def test_parts_are_lent(self):
        self.says(start(("put", spot("x", 0), 1), ("fill", spot("x", 1), 2), ("sole", "r", spot("x")),
                        ("sole", "t", thru("r", 1)), ("put", thru("r", 0), 3), ("put", thru("t", at=1), 4),
                        ("say", thru("r", 1, at=1)), ("say", spot("x", 0)), GIVE,
                        lets=named(x=PAIR, r=sole(PAIR), t=sole(STRIP))), [4, 3])


class FaultOrderTest(MachineCase):
    """Which fault comes first."""

    def test_stale_ahead_of_empty_at_one_box(self):
        """q's tag is taken away by the move, which empties the box too."""
        self.faults(start(("put", spot("x"), 1), ("lend", "q", spot("x")), ("move", spot("y"), spot("x")),
                          ("say", thru("q")), GIVE, lets=named(x=NUM, y=NUM, q=lent(NUM))), "stale", 3)

    def test_boxes_one_after_the_other(self):
        """The first of the boxes or the last one is stale: the row is not done either way."""
        lets = named(x=("rec", (NUM, NUM)), y=("rec", (NUM, NUM)), r=sole(("rec", (NUM, NUM))))
        rows = (("put", spot("x", 0), 1), ("put", spot("x", 1), 1), ("sole", "r", spot("x")))
        for leaf in (0, 1):
            self.faults(start(*rows, ("put", spot("x", leaf), 1), ("copy", spot("y"), thru("r")), GIVE, lets=lets),
                        "stale", 4)

    def test_empty_ahead_of_stale_by_the_acts_order(self):
        lets = named(x=NUM, y=NUM, q=lent(NUM))
        rows = (("put", spot("x"), 1), ("lend", "q", spot("x")), ("put", spot("x"), 2))
        self.faults(start(*rows, ("set", spot("x"), "+", spot("y"), thru("q")), GIVE, lets=lets), "empty", 3)
        self.faults(start(*rows, ("set", spot("x"), "+", thru("q"), spot("y")), GIVE, lets=lets), "stale", 3)

    def test_a_holder_of_nothing_ahead_of_all_else(self):
        lets = named(a=NUM, r=sole(NUM))
        self.faults(start(("put", thru("r"), spot("a")), GIVE, lets=lets), "empty", 0)

    def test_a_write_by_a_stale_tag(self):
        self.faults(start(("put", spot("x"), 1), ("sole", "r", spot("x")), ("drop", spot("x")),
                          ("put", thru("r"), 2), GIVE, lets=named(x=NUM, r=sole(NUM))), "stale", 3)

    def test_a_fault_ends_the_row_where_it_comes(self):
        """Row 2 reads and then faults: it is not done."""
        told = self.told(start(("say", 1), ("put", spot("x"), 1), ("set", spot("x"), "+", spot("x"), spot("y")),
                               ("say", 2), GIVE, lets=named(x=NUM, y=NUM)))
        self.assertEqual(told, ("fault", [1], 2, ("empty", 0, 2)))


if __name__ == "__main__":
    unittest.main()
