import unittest

from courtscore.errors import BadRules
from courtscore.standings import Rules, after, begin

GREAT = 10 ** 5000
BEYOND = (0, -1, -7, -GREAT, 100, GREAT)


def numbers(rules):
    return (rules.points(), rules.games(), rules.sets())


class RulesTest(unittest.TestCase):
    def test_all_within_the_bounds_are_taken(self):
        for points in range(1, 6):
            for games in range(1, 7):
                for sets in range(1, 4):
                    made = Rules(points, games, sets)
                    self.assertEqual(numbers(made), (points, games, sets))

    def test_arguments_have_their_names(self):
        self.assertEqual(numbers(Rules(sets=3, points=5, games=6)), (5, 6, 3))

    def test_points_beyond_the_bounds_are_refused(self):
        for number in BEYOND + (6,):
            self.assertRaises(BadRules, Rules, number, 1, 1)
            self.assertRaises(BadRules, Rules, number, 6, 3)

    def test_games_beyond_the_bounds_are_refused(self):
        for number in BEYOND + (7,):
            self.assertRaises(BadRules, Rules, 1, number, 1)
            self.assertRaises(BadRules, Rules, 5, number, 3)

    def test_sets_beyond_the_bounds_are_refused(self):
        for number in BEYOND + (4,):
            self.assertRaises(BadRules, Rules, 1, 1, number)
            self.assertRaises(BadRules, Rules, 5, 6, number)

    def test_several_beyond_the_bounds_are_refused(self):
        self.assertRaises(BadRules, Rules, 0, 0, 0)
        self.assertRaises(BadRules, Rules, 6, 7, 4)
        self.assertRaises(BadRules, Rules, -GREAT, GREAT, 2)

    def test_two_rules_tell_their_own(self):
        one = Rules(4, 6, 2)
        other = Rules(1, 2, 3)
        after(one, begin(), 0)
        after(other, begin(), 1)
        self.assertRaises(BadRules, Rules, 5, 5, 4)
        self.assertEqual(numbers(one), (4, 6, 2))
        self.assertEqual(numbers(other), (1, 2, 3))


if __name__ == "__main__":
    unittest.main()
