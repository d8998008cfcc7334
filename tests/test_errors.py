"""The refusals: who stands under whom, and what Against keeps."""

import unittest

from lendrule import errors

NAMES = ("NoPart", "NoName", "NoWay", "Stale", "NotSole", "Against", "NoText", "Misfit")


class ErrorsTest(unittest.TestCase):

    def test_lend_error_stands_under_value_error(self):
        self.assertTrue(issubclass(errors.LendError, ValueError))

    def test_each_stands_under_lend_error(self):
        for name in NAMES:
            with self.subTest(name):
                one = getattr(errors, name)
                self.assertTrue(issubclass(one, errors.LendError))
                self.assertIsNot(one, errors.LendError)

    def test_none_stands_under_another(self):
        for name in NAMES:
            for other in NAMES:
                if name != other:
                    with self.subTest(name=name, other=other):
                        self.assertFalse(issubclass(getattr(errors, name), getattr(errors, other)))

    def test_each_is_raised_with_words(self):
        for name in NAMES + ("LendError",):
            if name != "Against":
                with self.subTest(name), self.assertRaises(errors.LendError):
                    raise getattr(errors, name)("words")

    def test_against_keeps_reason_and_row(self):
        with self.assertRaises(errors.Against) as caught:
            raise errors.Against("named", 3)
        self.assertEqual(caught.exception.reason, "named")
        self.assertEqual(caught.exception.row, 3)

    def test_against_has_its_arguments_under_their_names(self):
        error = errors.Against(reason="form", row=0)
        self.assertEqual((error.reason, error.row), ("form", 0))

    def test_each_against_has_its_own_fields(self):
        one = errors.Against("way", 1)
        other = errors.Against("lent", 2)
        self.assertEqual((one.reason, one.row, other.reason, other.row), ("way", 1, "lent", 2))


if __name__ == "__main__":
    unittest.main()
