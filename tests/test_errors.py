import unittest

from decidebook import errors

NAMES = ("NoOrder", "NoSentence", "NoMark", "NoRoom", "NoWord", "NoRow", "NoNumber", "NoWeights", "NoShares",
         "NoCover", "TooGreat", "NoNote")


class Errors(unittest.TestCase):

    def test_any_refusal_is_a_value_error(self):
        self.assertEqual(errors.BookError.__bases__, (ValueError,))

    def test_each_stands_straight_under_book_error(self):
        for name in NAMES:
            with self.subTest(name):
                self.assertEqual(getattr(errors, name).__bases__, (errors.BookError,))
                self.assertEqual(getattr(errors, name).__name__, name)

    def test_they_stand_in_the_order_in_which_they_go(self):
        found = [name for name, value in vars(errors).items() if isinstance(value, type)]
        self.assertEqual(found, ["BookError"] + list(NAMES))

    def test_each_can_be_raised_with_words_of_its_own(self):
        for name in NAMES:
            with self.subTest(name):
                with self.assertRaises(errors.BookError) as caught:
                    raise getattr(errors, name)("some words")
                self.assertEqual(str(caught.exception), "some words")


if __name__ == "__main__":
    unittest.main()
