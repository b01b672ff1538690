"""The classes of refusals, where they stand and what they bear."""

import unittest

from farhail import errors

TEXT_NAMES = (
    "NoWeb", "NoPlace", "NoThing", "NoLooks", "NoTree", "NotOne", "NoSuch", "NoCode", "TooMany",
    "NotHeard", "NoRow", "NoBack",
)
ALL_NAMES = TEXT_NAMES + ("Apart", "NoText")


class ErrorsTest(unittest.TestCase):

    def test_hail_error_stands_straight_under_value_error(self):
        self.assertEqual(errors.HailError.__bases__, (ValueError,))

    def test_each_class_stands_straight_under_hail_error(self):
        for name in ALL_NAMES:
            with self.subTest(name=name):
                self.assertEqual(getattr(errors, name).__bases__, (errors.HailError,))
                self.assertEqual(getattr(errors, name).__name__, name)

    def test_no_class_stands_under_another(self):
        kinds = [getattr(errors, name) for name in ALL_NAMES]
        for one in kinds:
            self.assertEqual([other for other in kinds if issubclass(one, other)], [one])

    def test_made_with_a_text(self):
        for name in TEXT_NAMES + ("HailError",):
            with self.subTest(name=name):
                self.assertIn("some words", str(getattr(errors, name)("some words")))

    def test_apart_bears_its_place(self):
        for place in (1, 7, 59):
            self.assertEqual(errors.Apart(place).place, place)

    def test_no_text_bears_its_row(self):
        for row in (0, 3, 200):
            self.assertEqual(errors.NoText(row).row, row)

    def test_raised_and_taken_as_refusals(self):
        for made in (errors.Apart(4), errors.NoText(2), errors.NoBack("nothing is left")):
            for base in (errors.HailError, ValueError):
                with self.assertRaises(base) as caught:
                    raise made
                self.assertIs(caught.exception, made)


if __name__ == "__main__":
    unittest.main()
