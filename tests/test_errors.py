import unittest

from ownboxes import errors

OF_A_TEXT = (
    "BadOrder", "BadBox", "BadOpenings", "NoPerson", "TooMany",
    "NoNumber", "BadPlan", "NoHelp", "BadGroup",
)


class Errors(unittest.TestCase):
    def test_the_base_stands_straight_under_value_error(self):
        self.assertEqual(errors.BoxError.__bases__, (ValueError,))

    def test_each_stands_straight_under_the_base_and_under_no_other(self):
        classes = [getattr(errors, name) for name in OF_A_TEXT + ("BadText",)]
        for one in classes:
            self.assertEqual(one.__bases__, (errors.BoxError,))
            for other in classes:
                self.assertEqual(issubclass(one, other), one is other)

    def test_each_is_made_of_a_text(self):
        for name in OF_A_TEXT:
            with self.assertRaises(errors.BoxError) as caught:
                raise getattr(errors, name)("some words")
            self.assertEqual(str(caught.exception), "some words")

    def test_a_bad_text_has_its_row(self):
        for row in (1, 7, 6001):
            with self.assertRaises(errors.BadText) as caught:
                raise errors.BadText(row)
            self.assertEqual(caught.exception.row, row)

    def test_each_bad_text_has_its_own_row(self):
        one = errors.BadText(1)
        other = errors.BadText(2)
        self.assertEqual((one.row, other.row), (1, 2))


if __name__ == "__main__":
    unittest.main()
