"""Point 28: the journal of a run, and the numbers of boxes and tags (26)."""

import unittest

from lendrule.forms import is_right
from lendrule.machine import journal, run
from pieces import DEED, GIVE, NUM, OWN, PAIR, STRIP, lent, named, sole, spot, start, thru

N = named(n=NUM)


class JournalCase(unittest.TestCase):

    def told(self, program, *inputs, most=400):
        self.assertTrue(is_right(program), program)
        return journal(program, list(inputs), most)

    def touches(self, program, *inputs):
        """The entries but those of boxes made and let go."""
        return [entry for entry in self.told(program, *inputs) if entry[2] not in ("own", "gone")]


class BoxesTest(JournalCase):

    def test_made_and_let_go(self):
        """Params and then lets, a tag each, a box for each leaf; holders have none."""
        program = start(("go", 1), GIVE, params=named(b=NUM, a=NUM),
                        lets=named(x=PAIR, q=lent(PAIR), s=STRIP, r=sole(NUM), y=DEED))
        boxes = [(0, 0), (1, 1), (2, 2), (3, 2), (4, 3), (5, 4), (6, 4)]
        self.assertEqual(self.told(program, 1, 2), [(0, -1, "own", box, tag, -1) for box, tag in boxes]
                         + [(0, 1, "gone", box, tag, -1) for box, tag in boxes])

    def test_of_calls(self):
        look = ("look", named(q=lent(NUM), a=NUM), None, named(x=OWN), (("say", thru("q")), GIVE))
        program = start(("lend", "q", spot("n")), ("call", "", "look", ("q", "n")), ("say", spot("n")), GIVE, params=N,
                        lets=named(q=lent(NUM)), others=(look,))
        self.assertEqual(self.told(program, 1), [
            (0, -1, "own", 0, 0, -1), (0, 0, "lend", 0, 0, 1),
            (0, 1, "lend", 0, 1, 2), (0, 1, "read", 0, 0, -1),
            (1, -1, "own", 1, 3, -1), (1, -1, "own", 2, 4, -1),
            (1, 0, "read", 0, 2, -1), (1, 1, "gone", 1, 3, -1), (1, 1, "gone", 2, 4, -1),
            (0, 2, "read", 0, 0, -1), (0, 3, "gone", 0, 0, -1),
        ])

    def test_of_a_result_that_is_owned(self):
        seven = ("seven", (), OWN, named(x=OWN), (("put", spot("x"), 7), ("give", "x")))
        program = start(("call", "y", "seven", ()), GIVE, lets=named(y=OWN), others=(seven,))
        self.assertEqual(self.told(program), [
            (0, -1, "own", 0, 0, -1), (1, -1, "own", 1, 1, -1), (1, 0, "write", 1, 1, -1), (1, 1, "write", 1, 1, -1),
            (1, 1, "gone", 1, 1, -1), (0, 0, "write", 0, 0, -1), (0, 1, "gone", 0, 0, -1),
        ])

    def test_of_a_result_that_is_held(self):
        """The give touches what the holder holds behind the letting go; the take touches nothing."""
        same = ("same", named(r=sole(NUM), n=NUM), ("sole", NUM, ("r",)), (), (("give", "r"),))
        program = start(("sole", "r", spot("n")), ("call", "s", "same", ("r", "n")), GIVE, params=N,
                        lets=named(r=sole(NUM), s=sole(NUM)), others=(same,))
        self.assertEqual(self.told(program, 1)[:3], [
            (0, -1, "own", 0, 0, -1), (0, 0, "sole", 0, 0, 1), (0, 1, "sole", 0, 1, 2)])
        self.assertEqual(self.told(program, 1)[3:], [
            (0, 1, "read", 0, 0, -1), (1, -1, "own", 1, 3, -1), (1, 0, "gone", 1, 3, -1), (1, 0, "read", 0, 2, -1)])
        self.assertEqual(run(program, [1]), ("fault", [], 2, ("stale", 1, 0)))


class TouchesTest(JournalCase):

    def test_each_row(self):
        lets = named(a=NUM, x=PAIR, y=PAIR, q=lent(PAIR), r=sole(STRIP), o=OWN, p=OWN)
        # Boxes: n 0, a 1, x 2 and 3, y 4 and 5, o 6, p 7; tags: n 0, a 1, x 2, y 3, o 4, p 5.
        program = start(
            ("put", spot("a"), spot("n")), ("set", spot("x", 0), "+", spot("a"), spot("n")), ("fill", spot("x", 1), 1),
            ("copy", spot("y"), spot("x")), ("put", spot("x", 1, at="n"), spot("y", 1, at="a")),
            ("lend", "q", spot("x")), ("sole", "r", spot("y", 1)), ("fill", thru("r"), thru("q", 0)),
            ("put", spot("o"), 1), ("move", spot("p"), spot("o")), ("drop", spot("p")), ("if", spot("n"), spot("a"), 0),
            ("say", thru("r", at=0)), ("go", 14), GIVE, params=N, lets=lets)
        self.assertEqual(self.touches(program, 1), [
            (0, 0, "read", 0, 0, -1), (0, 0, "write", 1, 1, -1),
            (0, 1, "read", 1, 1, -1), (0, 1, "read", 0, 0, -1), (0, 1, "write", 2, 2, -1),
            (0, 2, "write", 3, 2, -1),
            (0, 3, "read", 2, 2, -1), (0, 3, "read", 3, 2, -1), (0, 3, "write", 4, 3, -1), (0, 3, "write", 5, 3, -1),
            (0, 4, "read", 1, 1, -1), (0, 4, "read", 5, 3, -1), (0, 4, "read", 0, 0, -1), (0, 4, "write", 3, 2, -1),
            (0, 5, "lend", 2, 2, 6), (0, 5, "lend", 3, 2, 6),
            (0, 6, "sole", 5, 3, 7),
            (0, 7, "read", 2, 6, -1), (0, 7, "write", 5, 7, -1),
            (0, 8, "write", 6, 4, -1),
            (0, 9, "write", 6, 4, -1), (0, 9, "write", 7, 5, -1),
            (0, 10, "write", 7, 5, -1),
            (0, 11, "read", 0, 0, -1), (0, 11, "read", 1, 1, -1),
            (0, 12, "read", 5, 7, -1),
        ])

    def test_args_and_holders_lent_on(self):
        take = ("take", named(d=DEED, r=sole(NUM)), None, (), (GIVE,))
        program = start(("put", spot("x", 0), 1), ("put", spot("x", 1), 1), ("sole", "r", spot("n")),
                        ("sole", "r", thru("r")), ("call", "", "take", ("x", "r")), GIVE, params=N,
                        lets=named(x=DEED, r=sole(NUM)), others=(take,))
        self.assertEqual(self.touches(program, 1)[2:], [
            (0, 2, "sole", 0, 0, 2), (0, 3, "sole", 0, 2, 3), (0, 4, "write", 1, 1, -1), (0, 4, "write", 2, 1, -1),
            (0, 4, "sole", 0, 3, 4)])

    def test_the_give_of_a_copied_owner_reads(self):
        same = ("same", named(a=NUM), NUM, (), (("give", "a"),))
        program = start(("call", "n", "same", ("n",)), GIVE, params=N, others=(same,))
        self.assertEqual(self.touches(program, 1), [(0, 0, "read", 0, 0, -1), (1, 0, "read", 1, 1, -1),
                                                    (0, 0, "write", 0, 0, -1)])


class FaultTest(JournalCase):

    def test_the_touch_is_the_last_entry(self):
        lets = named(x=NUM, y=NUM, q=lent(NUM), r=sole(NUM))
        for row, entry in ((("say", spot("y")), (0, 3, "read", 1, 1, -1)),
                           (("say", thru("q")), (0, 3, "read", 0, 2, -1)),
                           (("lend", "q", thru("q")), (0, 3, "lend", 0, 2, 3)),
                           (("lend", "q", spot("y")), (0, 3, "lend", 1, 1, 3)),
                           (("sole", "r", spot("y")), (0, 3, "sole", 1, 1, 3)),
                           (("drop", spot("y")), (0, 3, "write", 1, 1, -1)),
                           (("set", spot("x"), "+", spot("x"), thru("q")), (0, 3, "read", 0, 2, -1))):
            with self.subTest(row):
                program = start(("put", spot("x"), 1), ("lend", "q", spot("x")), ("put", spot("x"), 2), row, GIVE,
                                lets=lets)
                self.assertEqual(self.told(program)[-1], entry)
                self.assertEqual(run(program, [])[0], "fault")

    def test_a_holder_of_nothing_touches_no_box(self):
        program = start(("say", spot("n")), ("say", thru("q")), GIVE, params=N, lets=named(q=lent(NUM)))
        self.assertEqual(self.told(program, 1), [(0, -1, "own", 0, 0, -1), (0, 0, "read", 0, 0, -1)])
        program = start(("lend", "q", thru("q")), GIVE, params=N, lets=named(q=lent(NUM)))
        self.assertEqual(self.told(program, 1), [(0, -1, "own", 0, 0, -1)])

    def test_boxes_ahead_of_the_fault_are_told(self):
        program = start(("put", spot("x", 0), 1), ("copy", spot("y"), spot("x")), GIVE, lets=named(x=PAIR, y=PAIR))
        self.assertEqual(self.touches(program), [(0, 0, "write", 0, 0, -1), (0, 1, "read", 0, 0, -1),
                                                 (0, 1, "read", 1, 0, -1)])

    def test_a_give_of_what_is_gone(self):
        own = ("own", N, ("lent", NUM, ()), named(q=lent(NUM)), (("lend", "q", spot("n")), ("give", "q")))
        program = start(("call", "q", "own", ("n",)), GIVE, params=N, lets=named(q=lent(NUM)), others=(own,))
        self.assertEqual(self.told(program, 1)[-3:], [(1, 0, "lend", 1, 1, 2), (1, 1, "gone", 1, 1, -1),
                                                      (1, 1, "read", 1, 2, -1)])


class EndsTest(JournalCase):

    def test_more(self):
        program = start(("say", spot("n")), GIVE, params=N)
        self.assertEqual(self.told(program, 1, most=0), [(0, -1, "own", 0, 0, -1)])
        self.assertEqual(self.told(program, 1, most=1), [(0, -1, "own", 0, 0, -1), (0, 0, "read", 0, 0, -1)])

    def test_most_is_400_if_nothing_is_said_of_it(self):
        self.assertEqual(len(journal(start(("if", spot("n"), 5, 0), GIVE, params=N), [1])), 401)

    def test_deep(self):
        program = start(("call", "", "main", ("n",)), GIVE, params=N)
        told = self.told(program, 1)
        self.assertEqual([entry[2] for entry in told], ["own"] + ["read", "own"] * 11)
        self.assertEqual(told[-1], (0, -1, "own", 11, 11, -1))

    def test_asked_again(self):
        program = start(("say", spot("n")), GIVE, params=N)
        told = journal(program, [1])
        kept = list(told)
        told.append(None)
        self.assertEqual(journal(program, [1]), kept)
        self.assertEqual(journal(program=program, inputs=[1], most=400), kept)


if __name__ == "__main__":
    unittest.main()
