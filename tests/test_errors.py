"""The refusals, as "joinside/errors.py" of the interface lists them."""

import unittest

from joinside import errors

from samples import REFUSALS


class Refusals(unittest.TestCase):
    def test_join_error_is_a_value_error(self):
        self.assertEqual(errors.JoinError.__bases__, (ValueError,))

    def test_each_refusal_stands_straight_under_join_error(self):
        for name in REFUSALS:
            with self.subTest(name):
                self.assertEqual(getattr(errors, name).__bases__, (errors.JoinError,))

    def test_all_are_defined_in_errors(self):
        for name in REFUSALS + ("JoinError",):
            with self.subTest(name):
                self.assertEqual(getattr(errors, name).__module__, "joinside.errors")
                self.assertEqual(getattr(errors, name).__name__, name)

    def test_no_tree_is_made_of_a_row(self):
        row = (3, 0, 2, 1)
        for refusal in (errors.NoTree(row), errors.NoTree(row=row)):
            self.assertEqual(refusal.row, (3, 0, 2, 1))
            self.assertIn("row", vars(refusal))

    def test_the_row_of_one_is_not_that_of_another(self):
        first, second = errors.NoTree((0, 1, 2, 3)), errors.NoTree((1, 0, 3, 2))
        self.assertEqual((first.row, second.row), ((0, 1, 2, 3), (1, 0, 3, 2)))

    def test_a_refusal_is_caught_by_its_name_and_as_a_value_error(self):
        for name in REFUSALS:
            if name == "NoTree":
                continue
            for caught in (getattr(errors, name), errors.JoinError, ValueError):
                with self.subTest(name, caught=caught):
                    with self.assertRaises(caught):
                        raise getattr(errors, name)("a word")
        with self.assertRaises(ValueError):
            raise errors.NoTree((0, 1, 2, 3))


if __name__ == "__main__":
    unittest.main()
