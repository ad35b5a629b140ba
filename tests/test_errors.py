import unittest

from twainkeep import errors

MADE_WITH_A_TEXT = ("NoPart", "NoPlace", "Twice", "Linked", "Apart", "NoDeed")
ALL = MADE_WITH_A_TEXT + ("NoText",)


class ErrorsTest(unittest.TestCase):
    def test_twain_error_is_a_value_error(self):
        self.assertEqual(errors.TwainError.__bases__, (ValueError,))

    def test_each_stands_straight_under_twain_error(self):
        for name in ALL:
            self.assertEqual(getattr(errors, name).__bases__, (errors.TwainError,), name)

    def test_none_is_taken_for_another(self):
        for name in ALL:
            for other in ALL:
                under = issubclass(getattr(errors, name), getattr(errors, other))
                self.assertEqual(under, name == other, (name, other))

    def test_made_with_a_text(self):
        for name in MADE_WITH_A_TEXT:
            with self.assertRaises(errors.TwainError) as caught:
                raise getattr(errors, name)("some words")
            self.assertEqual(str(caught.exception), "some words")

    def test_no_text_tells_its_row(self):
        self.assertEqual(errors.NoText(3).row, 3)
        self.assertEqual(errors.NoText(0).row, 0)
        self.assertEqual(errors.NoText(row=7).row, 7)
        with self.assertRaises(ValueError) as caught:
            raise errors.NoText(12)
        self.assertEqual(caught.exception.row, 12)

    def test_rows_of_two_do_not_mix(self):
        first = errors.NoText(1)
        second = errors.NoText(2)
        self.assertEqual((first.row, second.row), (1, 2))


if __name__ == "__main__":
    unittest.main()
