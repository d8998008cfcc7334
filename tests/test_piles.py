"""Point 25: what becomes of a pile when it is read, written, lent and lent to one alone by a tag."""

import unittest

from lendrule.errors import LendError, NotSole, Stale
from lendrule.piles import lent_by, read_by, soled_by, written_by

HIGH = [(0, "own"), (1, "lent"), (2, "sole"), (3, "lent"), (4, "lent"), (5, "sole"), (6, "lent")]


class ReadTest(unittest.TestCase):

    def test_takes_the_lowest_sole_above_and_all_above_that(self):
        self.assertEqual(read_by(HIGH, 0), HIGH[:2])
        self.assertEqual(read_by(HIGH, 1), HIGH[:2])
        self.assertEqual(read_by(HIGH, 2), HIGH[:5])
        self.assertEqual(read_by(HIGH, 3), HIGH[:5])
        self.assertEqual(read_by(HIGH, 4), HIGH[:5])

    def test_takes_nothing_where_no_sole_is_above(self):
        self.assertEqual(read_by(HIGH, 5), HIGH)
        self.assertEqual(read_by(HIGH, 6), HIGH)
        self.assertEqual(read_by([(3, "own")], 3), [(3, "own")])

    def test_lent_ones_above_stay(self):
        pile = [(0, "own"), (1, "lent"), (2, "lent")]
        self.assertEqual(read_by(pile, 0), pile)
        self.assertEqual(read_by(pile, 1), pile)

    def test_a_sole_one_at_the_bottom(self):
        self.assertEqual(read_by([(4, "sole"), (2, "sole")], 4), [(4, "sole")])
        self.assertEqual(read_by([(4, "sole"), (2, "sole")], 2), [(4, "sole"), (2, "sole")])

    def test_tags_need_not_rise(self):
        self.assertEqual(read_by([(9, "own"), (2, "lent"), (5, "sole"), (1, "lent")], 2), [(9, "own"), (2, "lent")])


class WriteTest(unittest.TestCase):

    def test_takes_all_above(self):
        self.assertEqual(written_by(HIGH, 0), HIGH[:1])
        self.assertEqual(written_by(HIGH, 2), HIGH[:3])
        self.assertEqual(written_by(HIGH, 5), HIGH[:6])
        self.assertEqual(written_by([(3, "own")], 3), [(3, "own")])

    def test_takes_lent_ones_above(self):
        self.assertEqual(written_by([(0, "own"), (1, "lent"), (2, "lent")], 0), [(0, "own")])

    def test_not_by_one_of_many(self):
        for tag in (1, 3, 4, 6):
            with self.assertRaises(NotSole):
                written_by(HIGH, tag)


class LendTest(unittest.TestCase):

    def test_to_many(self):
        self.assertEqual(lent_by(HIGH, 0, 9), HIGH[:2] + [(9, "lent")])
        self.assertEqual(lent_by(HIGH, 3, 9), HIGH[:5] + [(9, "lent")])
        self.assertEqual(lent_by(HIGH, 6, 9), HIGH + [(9, "lent")])
        self.assertEqual(lent_by([(8, "own")], 8, 0), [(8, "own"), (0, "lent")])

    def test_to_one_alone(self):
        self.assertEqual(soled_by(HIGH, 0, 9), HIGH[:1] + [(9, "sole")])
        self.assertEqual(soled_by(HIGH, 2, 9), HIGH[:3] + [(9, "sole")])
        self.assertEqual(soled_by([(8, "own")], 8, 0), [(8, "own"), (0, "sole")])

    def test_to_one_alone_not_by_one_of_many(self):
        for tag in (1, 3, 4, 6):
            with self.assertRaises(NotSole):
                soled_by(HIGH, tag, 9)


def each_way(pile, tag):
    return [lambda: read_by(pile, tag), lambda: written_by(pile, tag), lambda: lent_by(pile, tag, 9),
            lambda: soled_by(pile, tag, 9)]


class RefusalTest(unittest.TestCase):

    def test_stale(self):
        for pile in ([], [(0, "own")], HIGH):
            for ask in each_way(pile, 7):
                with self.assertRaises(Stale) as caught:
                    ask()
                self.assertIsInstance(caught.exception, LendError)
                self.assertNotIsInstance(caught.exception, NotSole)

    def test_a_word_is_no_tag(self):
        with self.assertRaises(Stale):
            read_by([(0, "own")], "own")

    def test_not_sole_is_none_of_the_others(self):
        with self.assertRaises(NotSole) as caught:
            written_by(HIGH, 1)
        self.assertIsInstance(caught.exception, LendError)
        self.assertNotIsInstance(caught.exception, Stale)


class TellingTest(unittest.TestCase):

    def test_a_new_list_each_time(self):
        pile = [(0, "own"), (1, "sole")]
        for ask in each_way(pile, 1):
            told = ask()
            kept = list(told)
            told.append(None)
            self.assertEqual(pile, [(0, "own"), (1, "sole")])
            self.assertEqual(ask(), kept)

    def test_what_is_handed_in_stays(self):
        for tag in range(8):
            for ask in each_way(HIGH, tag):
                kept = list(HIGH)
                try:
                    ask()
                except LendError:
                    pass
                self.assertEqual(HIGH, kept)


if __name__ == "__main__":
    unittest.main()
