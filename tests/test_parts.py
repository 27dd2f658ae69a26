import math
import unittest
from fractions import Fraction

from courtscore.errors import BadPart
from courtscore.parts import common_multiple, fraction, refuse_bad_part

GREAT = 10 ** 5000


def told(value):
    return (value.numerator, value.denominator)


class Fractions(unittest.TestCase):
    def test_no_common_divisor_is_left(self):
        for top in range(-30, 31):
            for bottom in list(range(-30, 0)) + list(range(1, 31)):
                with self.subTest(top=top, bottom=bottom):
                    self.assertEqual(fraction(top, bottom), told(Fraction(top, bottom)))

    def test_nought_has_one_form(self):
        self.assertEqual(fraction(0, 1), (0, 1))
        self.assertEqual(fraction(0, 17), (0, 1))
        self.assertEqual(fraction(0, -17), (0, 1))

    def test_great_numbers(self):
        self.assertEqual(fraction(6 * GREAT, 4 * GREAT), (3, 2))
        self.assertEqual(fraction(GREAT, GREAT + 1), (GREAT, GREAT + 1))

    def test_common_multiple(self):
        for one in range(1, 25):
            for other in range(1, 25):
                self.assertEqual(common_multiple(one, other), math.lcm(one, other))
        self.assertEqual(common_multiple(6 * GREAT, 4 * GREAT), 12 * GREAT)


class Parts(unittest.TestCase):
    def test_parts_from_nought_to_one_are_taken(self):
        for part in ((0, 1), (1, 1), (1, 2), (1, GREAT), (GREAT, GREAT + 1)):
            self.assertIsNone(refuse_bad_part(part))

    def test_parts_below_nought_are_refused(self):
        for part in ((-1, 1), (-1, 2), (-1, GREAT), (-GREAT, 1), (-GREAT, GREAT + 1)):
            self.assertRaises(BadPart, refuse_bad_part, part)

    def test_parts_above_one_are_refused(self):
        for part in ((2, 1), (3, 2), (GREAT + 1, GREAT), (GREAT, 1)):
            self.assertRaises(BadPart, refuse_bad_part, part)


if __name__ == "__main__":
    unittest.main()
