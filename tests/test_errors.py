import unittest

from boughbook import errors

UNDER = ["NoKinds", "NoTree", "NoPlace", "NoBook", "NoText", "NotOne", "Great", "Many", "NoName"]


class Errors(unittest.TestCase):
    def test_book_error_stands_under_value_error(self):
        self.assertEqual(errors.BookError.__bases__, (ValueError,))

    def test_each_refusal_stands_straight_under_book_error(self):
        for name in UNDER:
            self.assertEqual(getattr(errors, name).__bases__, (errors.BookError,), name)

    def test_there_are_these_nine_and_no_other(self):
        self.assertEqual(sorted(kind.__name__ for kind in errors.BookError.__subclasses__()), sorted(UNDER))

    def test_none_is_caught_as_another(self):
        for name in UNDER:
            for other in UNDER:
                caught = issubclass(getattr(errors, name), getattr(errors, other))
                self.assertEqual(caught, name == other, (name, other))

    def test_each_can_be_raised_with_words(self):
        for name in UNDER:
            with self.assertRaises(errors.BookError):
                raise getattr(errors, name)("words")
