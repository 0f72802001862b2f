"""The error classes of the interface, and where each of them stands."""

import unittest

from goldplaces.errors import GoldError, NoNote, NoNumber, NoRow

REFUSALS = (NoNumber, NoRow, NoNote)


class Classes(unittest.TestCase):

    def test_any_refusal_stands_straight_under_value_error(self):
        self.assertEqual(GoldError.__bases__, (ValueError,))

    def test_each_refusal_stands_straight_under_gold_error(self):
        for refusal in REFUSALS:
            with self.subTest(refusal=refusal.__name__):
                self.assertEqual(refusal.__bases__, (GoldError,))

    def test_names(self):
        self.assertEqual([refusal.__name__ for refusal in REFUSALS], ["NoNumber", "NoRow", "NoNote"])
        self.assertEqual(GoldError.__name__, "GoldError")


class Taking(unittest.TestCase):

    def test_each_is_taken_as_a_gold_error_and_as_a_value_error(self):
        for refusal in REFUSALS:
            for above in (refusal, GoldError, ValueError):
                with self.subTest(refusal=refusal.__name__, above=above.__name__):
                    with self.assertRaises(above):
                        raise refusal("some words")

    def test_none_takes_the_refusal_of_another(self):
        for refusal in REFUSALS:
            for another in REFUSALS:
                if refusal is another:
                    continue
                with self.subTest(refusal=refusal.__name__, another=another.__name__):
                    taken = None
                    try:
                        raise refusal("some words")
                    except another:
                        taken = another
                    except GoldError as error:
                        taken = type(error)
                    self.assertIs(taken, refusal)

    def test_none_takes_the_refusal_at_large(self):
        for refusal in REFUSALS:
            with self.subTest(refusal=refusal.__name__):
                self.assertNotIsInstance(GoldError("some words"), refusal)

    def test_words_are_kept(self):
        for refusal in (GoldError,) + REFUSALS:
            with self.subTest(refusal=refusal.__name__):
                self.assertEqual(str(refusal("some words")), "some words")


if __name__ == "__main__":
    unittest.main()
