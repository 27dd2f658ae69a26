import itertools
import math
import time
import unittest
from fractions import Fraction

from courtscore.chances import chance, points_to_come
from courtscore.errors import BadPart, BadStanding
from courtscore.standings import Rules, after, begin, winner

GREAT = 10 ** 5000
HUNDRED_FIGURES = 10 ** 99 + 7
BEGIN = ((0, 0), (0, 0), (0, 0))
USUAL = Rules(4, 6, 2)
ALL_RULES = list(itertools.product(range(1, 6), range(1, 7), range(1, 4)))
PARTS = ((0, 1), (1, 1), (1, 2), (1, 3), (3, 5), (99, 100))


def value(one):
    return Fraction(one[0], one[1])


def told(one):
    return (one.numerator, one.denominator)


def mirrored(standing):
    return tuple((pair[1], pair[0]) for pair in standing)


def standings_up_to(rules, most_games, most_points):
    # Each standing that some row leads to without leaving the bounds, those behind the end of the match too.
    reached, waiting = {}, [begin()]
    while waiting:
        standing = waiting.pop()
        if standing in reached or max(standing[1]) > most_games or max(standing[2]) > most_points:
            continue
        reached[standing] = winner(rules, standing)
        if reached[standing] is None:
            waiting.extend(after(rules, standing, who) for who in (0, 1))
    return reached


def points_alone(rules, standing, who):
    # How many points it takes if one player wins them all.
    many = 0
    while winner(rules, standing) is None:
        standing = after(rules, standing, who)
        many += 1
    return many


def run_out(rules, standing, part, many):
    # Plays many points by their chances: what each player has won by then, and the points so far on average.
    part = part[0] / part[1]
    won, points, going = [0.0, 0.0], 0.0, {standing: 1.0}
    for gone in range(many):
        later = {}
        for one, weight in going.items():
            who = winner(rules, one)
            if who is not None:
                won[who] += weight
                continue
            points += weight
            for player, share in ((0, part), (1, 1 - part)):
                behind = after(rules, one, player)
                later[behind] = later.get(behind, 0.0) + weight * share
        going = {one: weight for one, weight in later.items() if weight > 1e-12}
    return won, points


class Checks(unittest.TestCase):
    def check_form(self, one):
        self.assertIs(type(one), tuple)
        self.assertEqual([type(number) for number in one], [int, int])
        self.assertGreater(one[1], 0)
        self.assertEqual(math.gcd(one[0], one[1]), 1)

    def check_sentences(self, rules, part, standings):
        chances, points = Cache(chance, rules, part), Cache(points_to_come, rules, part)
        share = value(part)
        for standing in standings:
            self.check_form(chances.told(standing))
            self.check_form(points.told(standing))
            who = winner(rules, standing)
            if who is not None:
                self.assertEqual(chances.told(standing), ((1, 1), (0, 1))[who])
                self.assertEqual(points.told(standing), (0, 1))
                continue
            won, lost = after(rules, standing, 0), after(rules, standing, 1)
            with self.subTest(rules=(rules.points(), rules.games(), rules.sets()), part=part):
                self.assertEqual(chances.value(standing),
                                 share * chances.value(won) + (1 - share) * chances.value(lost))
                self.assertEqual(points.value(standing),
                                 1 + share * points.value(won) + (1 - share) * points.value(lost))


class Cache:
    def __init__(self, ask, rules, part):
        self.ask, self.rules, self.part, self.known = ask, rules, part, {}

    def told(self, standing):
        if standing not in self.known:
            self.known[standing] = self.ask(self.rules, standing, self.part)
        return self.known[standing]

    def value(self, standing):
        return value(self.told(standing))


class Sentences(Checks):
    def test_at_each_standing_of_small_rules(self):
        for numbers in itertools.product((1, 2, 3), (1, 2, 3), (1, 2)):
            rules = Rules(*numbers)
            standings = standings_up_to(rules, numbers[1] + 2, numbers[0] + 2)
            for part in PARTS[:3] + PARTS[4:5]:
                self.check_sentences(rules, part, standings)

    def test_at_each_standing_of_greater_rules(self):
        for numbers, part in (((4, 2, 2), (2, 3)), ((5, 1, 3), (7, 10)), ((1, 6, 2), (1, 4)), ((5, 6, 1), (3, 5)),
                              ((4, 6, 2), (1, 2)), ((2, 3, 3), (1, 1)), ((3, 4, 3), (0, 1))):
            rules = Rules(*numbers)
            self.check_sentences(rules, part, standings_up_to(rules, numbers[1] + 1, numbers[0] + 1))

    def test_with_all_rules_along_some_rows(self):
        for place, numbers in enumerate(ALL_RULES):
            rules = Rules(*numbers)
            standings, standing, seed = [BEGIN], BEGIN, place + 3
            while winner(rules, standing) is None and len(standings) < 60:
                seed = (seed * 1103515245 + 12345) % 2147483648
                standing = after(rules, standing, seed // 65536 % 2)
                standings.append(standing)
            for part in (PARTS[place % 6], (place + 1, 2 * place + 3)):
                self.check_sentences(rules, part, standings)

    def test_level_far_up(self):
        for numbers in ((1, 1, 1), (4, 6, 2), (5, 6, 3), (2, 1, 2)):
            rules = Rules(*numbers)
            for high in (6, 7, 1000, HUNDRED_FIGURES, GREAT):
                around = ((high, high), (high + 1, high), (high, high + 1))
                some = [(BEGIN[0], games, points) for games in around for points in around]
                some += [(BEGIN[0], (0, 0), points) for points in around]
                some += [(BEGIN[0], games, (0, 0)) for games in around]
                for part in ((0, 1), (1, 1), (1, 2), (2, 7)):
                    self.check_sentences(rules, part, some)

    def test_one_point_from_the_set_and_one_game_from_the_match(self):
        for part in PARTS:
            self.check_sentences(USUAL, part, [
                ((0, 0), (5, 4), (3, 2)), ((0, 0), (4, 5), (2, 3)), ((0, 1), (5, 4), (3, 2)),
                ((1, 0), (5, 4), (0, 0)), ((1, 1), (5, 4), (0, 0)), ((1, 1), (4, 5), (0, 0)),
                ((1, 1), (5, 0), (3, 0)), ((1, 1), (0, 5), (0, 3)), ((1, 1), (9, 8), (40, 39)),
            ])

    def test_parts_with_great_numbers(self):
        for part in ((1, HUNDRED_FIGURES), (HUNDRED_FIGURES - 1, HUNDRED_FIGURES)):
            self.check_sentences(Rules(2, 2, 1), part, [BEGIN, ((0, 0), (1, 1), (3, 2))])
        self.check_sentences(Rules(1, 1, 1), (1, GREAT), [((0, 0), (1, 0), (1, 0))])


class Values(Checks):
    def test_one_point_one_game_one_set(self):
        rules = Rules(1, 1, 1)
        self.assertEqual(chance(rules, BEGIN, (1, 2)), (1, 2))
        self.assertEqual(points_to_come(rules, BEGIN, (1, 2)), (16, 1))
        # A game is won by 2/3 with (4/9) / (5/9), a set by 4/5 with (16/25) / (17/25).
        self.assertEqual(chance(rules, BEGIN, (2, 3)), (16, 17))
        self.assertEqual(points_to_come(rules, BEGIN, (2, 3)), (180, 17))
        self.assertEqual(chance(rules, ((0, 0), (1, 0), (1, 0)), (2, 3)), told(Fraction(2, 3) + Fraction(
            1, 3) * (Fraction(4, 5) + Fraction(1, 5) * Fraction(16, 17))))

    def test_by_the_known_form_of_a_game_of_four(self):
        for part in ((1, 2), (3, 5), (11, 20), (0, 1), (1, 1)):
            own = value(part)
            other = 1 - own
            game = own ** 4 * (1 + 4 * other + 10 * other ** 2) + 20 * own ** 5 * other ** 3 / (
                own ** 2 + other ** 2)
            level = game ** 2 / (game ** 2 + (1 - game) ** 2)
            rules = Rules(4, 6, 1)
            self.assertEqual(chance(rules, ((0, 0), (8, 8), (0, 0)), part), told(level))
            self.assertEqual(chance(rules, ((0, 0), (6, 5), (0, 0)), part), told(game + (1 - game) * level))
            self.assertEqual(chance(rules, ((0, 0), (5, 6), (0, 0)), part), told(game * level))

    def test_two_and_three_sets_from_one(self):
        for part in ((1, 2), (3, 5), (1, 10)):
            one = value(chance(Rules(3, 2, 1), BEGIN, part))
            points = value(points_to_come(Rules(3, 2, 1), BEGIN, part))
            other = 1 - one
            self.assertEqual(chance(Rules(3, 2, 2), BEGIN, part), told(one ** 2 * (1 + 2 * other)))
            self.assertEqual(chance(Rules(3, 2, 3), BEGIN, part),
                             told(one ** 3 * (1 + 3 * other + 6 * other ** 2)))
            self.assertEqual(points_to_come(Rules(3, 2, 2), BEGIN, part), told(points * (2 + 2 * one * other)))
            self.assertEqual(chance(Rules(3, 2, 3), ((2, 1), (0, 0), (0, 0)), part), told(one + other * one))

    def test_against_matches_run_out(self):
        for numbers, standing, part in (((1, 1, 1), BEGIN, (1, 2)), ((2, 2, 2), BEGIN, (2, 3)),
                                        ((3, 1, 2), ((0, 1), (1, 0), (2, 1)), (3, 5)),
                                        ((4, 2, 1), ((0, 0), (7, 7), (9, 8)), (1, 3))):
            rules = Rules(*numbers)
            won, points = run_out(rules, standing, part, 300)
            self.assertAlmostEqual(won[0] + won[1], 1.0, places=6)
            self.assertAlmostEqual(float(value(chance(rules, standing, part))), won[0], places=6)
            self.assertAlmostEqual(float(value(points_to_come(rules, standing, part))), points, places=4)

    def test_nought_and_one_as_part(self):
        for numbers in ALL_RULES:
            rules = Rules(*numbers)
            last = (numbers[2] - 1, numbers[2] - 1)
            for standing in (BEGIN, (last, (0, 0), (0, 0)), (last, (8, 8), (0, 0)), (last, (8, 9), (6, 5)),
                             (last, (0, 0), (11, 12)), ((0, 0), (9, 8), (7, 7))):
                for who, part in ((0, (1, 1)), (1, (0, 1))):
                    self.assertEqual(chance(rules, standing, part), part)
                    self.assertEqual(points_to_come(rules, standing, part),
                                     (points_alone(rules, standing, who), 1))

    def test_where_the_match_is_won(self):
        for numbers in ALL_RULES:
            rules = Rules(*numbers)
            for less in range(rules.sets()):
                for part in PARTS:
                    won, lost = ((rules.sets(), less), (0, 0), (0, 0)), ((less, rules.sets()), (0, 0), (0, 0))
                    self.assertEqual(chance(rules, won, part), (1, 1))
                    self.assertEqual(chance(rules, lost, part), (0, 1))
                    self.assertEqual(points_to_come(rules, won, part), (0, 1))
                    self.assertEqual(points_to_come(rules, lost, part), (0, 1))

    def test_even_players_are_even_where_all_is_level(self):
        for numbers in ALL_RULES:
            for standing in (BEGIN, ((0, 0), (HUNDRED_FIGURES,) * 2, (3 * HUNDRED_FIGURES,) * 2)):
                self.assertEqual(chance(Rules(*numbers), standing, (1, 2)), (1, 2))

    def test_the_players_exchanged(self):
        for numbers in ((1, 1, 1), (2, 3, 2), (4, 2, 3), (5, 6, 3)):
            rules = Rules(*numbers)
            for standing in list(standings_up_to(rules, numbers[1], numbers[0]))[::max(1, numbers[1] ** 2)]:
                for part in ((0, 1), (1, 1), (1, 2), (5, 9)):
                    left = (part[1] - part[0], part[1])
                    self.assertEqual(value(chance(rules, standing, part)) + value(
                        chance(rules, mirrored(standing), left)), 1)
                    self.assertEqual(points_to_come(rules, standing, part),
                                     points_to_come(rules, mirrored(standing), left))

    def test_the_bounds_of_the_rules_within_a_short_time(self):
        rules = Rules(5, 6, 3)
        started = time.perf_counter()
        for part in PARTS + ((123456789, 987654322),):
            for standing in (BEGIN, ((2, 2), (5, 5), (4, 4)), ((0, 0), (0, 5), (0, 4))):
                self.check_form(chance(rules, standing, part))
                self.check_form(points_to_come(rules, standing, part))
        self.assertLess(time.perf_counter() - started, 10)
        self.check_sentences(rules, (51, 100), [BEGIN, ((2, 1), (5, 5), (4, 3)), ((0, 2), (3, 5), (4, 4))])

    def test_arguments_have_their_names(self):
        self.assertEqual(chance(rules=USUAL, standing=BEGIN, part=(1, 2)), (1, 2))
        self.assertEqual(points_to_come(rules=USUAL, standing=((2, 0), (0, 0), (0, 0)), part=(1, 2)), (0, 1))

    def test_what_was_asked_earlier_changes_nothing(self):
        asked = [(ask, rules, standing, part) for ask in (chance, points_to_come)
                 for rules in (USUAL, Rules(1, 2, 3)) for standing in (BEGIN, ((1, 0), (6, 6), (4, 3)))
                 for part in ((0, 1), (1, 2), (3, 5))]
        first = [ask(*rest) for ask, *rest in asked]
        self.assertEqual([ask(*rest) for ask, *rest in reversed(asked)], first[::-1])
        self.assertEqual((USUAL.points(), USUAL.games(), USUAL.sets()), (4, 6, 2))


class Refused(unittest.TestCase):
    bad_parts = ((-1, 1), (2, 1), (3, 2), (-1, 2), (101, 100), (-1, GREAT), (GREAT + 1, GREAT), (-GREAT, 1))
    bad_standings = (
        ((-1, 0), (0, 0), (0, 0)), ((0, 0), (0, -1), (0, 0)), ((0, 0), (0, 0), (-1, -1)), ((0, 0), (0, 0), (4, 2)),
        ((0, 0), (6, 4), (0, 0)), ((2, 2), (0, 0), (0, 0)), ((3, 0), (0, 0), (0, 0)), ((2, 0), (1, 0), (0, 0)),
        ((0, 2), (0, 0), (0, 1)), ((0, 0), (0, 0), (GREAT, GREAT - 2)), ((0, 0), (GREAT, 0), (0, 0)),
        ((GREAT, 0), (0, 0), (0, 0)), ((0, 0), (0, 0), (-GREAT, -GREAT)), ((1, 1), (GREAT, GREAT + 2), (0, 0)))

    def test_bad_parts(self):
        for part in self.bad_parts:
            for standing in (BEGIN, ((1, 1), (GREAT, GREAT), (3, 3)), ((2, 0), (0, 0), (0, 0)),
                             ((1, 2), (0, 0), (0, 0))):
                self.assertRaises(BadPart, chance, USUAL, standing, part)
                self.assertRaises(BadPart, points_to_come, USUAL, standing, part)

    def test_bad_standings(self):
        for standing in self.bad_standings:
            for part in ((1, 2), (0, 1), (1, 1)):
                self.assertRaises(BadStanding, chance, USUAL, standing, part)
                self.assertRaises(BadStanding, points_to_come, USUAL, standing, part)

    def test_bad_standings_are_told_ahead_of_bad_parts(self):
        for standing, part in itertools.product(self.bad_standings, self.bad_parts):
            self.assertRaises(BadStanding, chance, USUAL, standing, part)
            self.assertRaises(BadStanding, points_to_come, USUAL, standing, part)


if __name__ == "__main__":
    unittest.main()
