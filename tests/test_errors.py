import unittest

from courtscore import errors

NAMES = ("BadRules", "BadStanding", "Over", "BadPart", "NoSuch", "NoText")


class Errors(unittest.TestCase):
    def test_court_error_stands_straight_beneath_value_error(self):
        self.assertEqual(errors.CourtError.__bases__, (ValueError,))

    def test_each_refusal_stands_straight_beneath_court_error(self):
        for name in NAMES:
            with self.subTest(name):
                self.assertEqual(getattr(errors, name).__bases__, (errors.CourtError,))

    def test_none_stands_beneath_another(self):
        for one in NAMES:
            for other in NAMES:
                if one != other:
                    with self.subTest(one=one, other=other):
                        self.assertFalse(issubclass(getattr(errors, one), getattr(errors, other)))

    def test_each_is_raised_and_taken_with_words(self):
        for name in ("CourtError",) + NAMES:
            with self.subTest(name):
                with self.assertRaises(ValueError) as taken:
                    raise getattr(errors, name)("words")
                self.assertEqual(str(taken.exception), "words")


if __name__ == "__main__":
    unittest.main()
