import itertools
import unittest

from courtscore.errors import BadStanding, Over
from courtscore.standings import Rules, after, begin, played, winner

GREAT = 10 ** 5000
BEGIN = ((0, 0), (0, 0), (0, 0))
ALL_RULES = [numbers for numbers in itertools.product(range(1, 6), range(1, 7), range(1, 4))]
USUAL = Rules(4, 6, 2)


def game(rules, who):
    return [who] * max(rules.points(), 2)


def whole_set(rules, who):
    return game(rules, who) * max(rules.games(), 2)


def row_of(seed, many):
    # A fixed row without a visible pattern; whoever won a point wins the next one a little more often.
    row = []
    for place in range(many):
        seed = (seed * 1103515245 + 12345) % 2147483648
        row.append(seed // 65536 % 2 if seed // 131072 % 3 or not row else row[-1])
    return row


def first_with(goal, lead, winners):
    # Counts one game, set or match from its start: its winner and its length, or None and the count so far.
    count = [0, 0]
    for place, who in enumerate(winners):
        count[who] += 1
        if count[who] >= goal and count[who] - count[1 - who] >= lead:
            return who, place + 1, count
    return None, len(winners), count


def cut(goal, lead, winners):
    # The winners of the ended pieces, the place where each ended, and the count in the open piece.
    ended, places, start = [], [], 0
    while True:
        who, many, count = first_with(goal, lead, winners[start:])
        if who is None:
            return ended, places, tuple(count)
        start += many
        ended.append(who)
        places.append(start)


def model(numbers, row):
    # Cuts the whole row into games, those into sets, those into the match; None where points come behind the end.
    games, game_places, points = cut(numbers[0], 2, row)
    sets, set_places, open_games = cut(numbers[1], 2, games)
    who, many, won = first_with(numbers[2], 1, sets)
    if who is not None and game_places[set_places[many - 1] - 1] < len(row):
        return None
    return (tuple(won), open_games, points), who


class Played(unittest.TestCase):
    def test_empty_row(self):
        for numbers in ALL_RULES:
            self.assertEqual(played(Rules(*numbers), []), BEGIN)

    def test_ordinary_rows(self):
        self.assertEqual(played(USUAL, [0, 0, 1]), ((0, 0), (0, 0), (2, 1)))
        self.assertEqual(played(USUAL, [0, 0, 1, 0, 0]), ((0, 0), (1, 0), (0, 0)))
        self.assertEqual(played(USUAL, [1, 1, 1, 1, 0]), ((0, 0), (0, 1), (1, 0)))
        self.assertEqual(played(USUAL, whole_set(USUAL, 1) + [0]), ((0, 1), (0, 0), (1, 0)))

    def test_all_short_rows_against_the_model(self):
        for numbers in ((1, 1, 1), (2, 1, 1), (1, 2, 1), (2, 2, 1), (1, 1, 2), (3, 1, 1), (1, 3, 1), (5, 6, 3)):
            for many in range(10):
                for row in itertools.product((0, 1), repeat=many):
                    self.check(numbers, list(row))

    def test_long_rows_against_the_model(self):
        for numbers in ALL_RULES:
            for seed in range(4):
                row = row_of(seed * 977 + 5, 300)
                for many in range(0, 301, 7):
                    self.check(numbers, row[:many])

    def check(self, numbers, row):
        rules = Rules(*numbers)
        wanted = model(numbers, row)
        handed_in = list(row)
        if wanted is None:
            self.assertRaises(Over, played, rules, handed_in)
        else:
            standing = played(rules, handed_in)
            self.assertEqual((standing, winner(rules, standing)), wanted)
        self.assertEqual(handed_in, row)

    def test_rows_of_300_points(self):
        self.assertEqual(played(Rules(1, 1, 1), [0, 1] * 150), ((0, 0), (0, 0), (150, 150)))
        self.assertEqual(played(Rules(5, 6, 3), [1, 0] * 150), ((0, 0), (0, 0), (150, 150)))
        self.assertEqual(played(Rules(1, 1, 1), [0, 0, 1, 1] * 75), ((0, 0), (75, 75), (0, 0)))
        self.assertEqual(played(Rules(5, 6, 1), ([0] * 5 + [1] * 5) * 30), ((0, 0), (30, 30), (0, 0)))

    def test_rows_beyond_300_points_are_not_refused(self):
        self.assertEqual(played(USUAL, [0, 1] * 151), ((0, 0), (0, 0), (151, 151)))
        self.assertEqual(played(USUAL, [0, 1] * 200 + [1]), ((0, 0), (0, 0), (200, 201)))

    def test_the_last_point_ends_the_match(self):
        row = [0, 0, 1, 1] * 74 + [1, 1, 1, 1]
        self.assertEqual(len(row), 300)
        self.assertEqual(played(Rules(1, 1, 1), row), ((0, 1), (0, 0), (0, 0)))
        for numbers in ALL_RULES:
            rules = Rules(*numbers)
            row = whole_set(rules, 0) * rules.sets()
            self.assertEqual(played(rules, row), ((rules.sets(), 0), (0, 0), (0, 0)))

    def test_a_point_behind_the_end_is_refused(self):
        for numbers in ALL_RULES:
            rules = Rules(*numbers)
            for who in (0, 1):
                row = whole_set(rules, who) * rules.sets()
                self.assertRaises(Over, played, rules, row + [0])
                self.assertRaises(Over, played, rules, row + [1])
                self.assertRaises(Over, played, rules, row + row)

    def test_the_row_stays_as_it_was_and_is_not_kept(self):
        row = [0, 0, 1, 0, 0, 1]
        standing = played(USUAL, row)
        self.assertEqual(row, [0, 0, 1, 0, 0, 1])
        row.append(1)
        row[0] = 1
        self.assertEqual(standing, ((0, 0), (1, 0), (0, 1)))
        ended = [0] * 5
        self.assertRaises(Over, played, Rules(1, 1, 1), ended)
        self.assertEqual(ended, [0] * 5)

    def test_rules_beside_one_another_tell_their_own(self):
        one, other = Rules(2, 2, 1), Rules(3, 1, 2)
        row = [0, 0, 0, 1]
        self.assertEqual(played(one, row), ((0, 0), (1, 0), (1, 1)))
        self.assertEqual(played(other, row), ((0, 0), (1, 0), (0, 1)))
        self.assertEqual(played(one, row), ((0, 0), (1, 0), (1, 1)))


class After(unittest.TestCase):
    def test_begin(self):
        self.assertEqual(begin(), BEGIN)
        self.check_kinds(begin())

    def test_arguments_have_their_names(self):
        rules = Rules(1, 1, 1)
        self.assertEqual(after(rules=rules, standing=BEGIN, who=1), ((0, 0), (0, 0), (0, 1)))
        self.assertIsNone(winner(rules=rules, standing=BEGIN))
        self.assertEqual(played(rules=rules, row=[0]), ((0, 0), (0, 0), (1, 0)))

    def test_within_a_game(self):
        self.assertEqual(after(USUAL, ((1, 0), (5, 5), (3, 2)), 1), ((1, 0), (5, 5), (3, 3)))
        self.assertEqual(after(USUAL, ((0, 1), (2, 4), (0, 2)), 0), ((0, 1), (2, 4), (1, 2)))

    def test_a_won_game(self):
        self.assertEqual(after(USUAL, ((1, 0), (5, 5), (3, 2)), 0), ((1, 0), (6, 5), (0, 0)))
        self.assertEqual(after(USUAL, ((0, 1), (2, 4), (0, 3)), 1), ((0, 1), (2, 5), (0, 0)))

    def test_a_won_set(self):
        self.assertEqual(after(USUAL, ((0, 1), (5, 4), (3, 0)), 0), ((1, 1), (0, 0), (0, 0)))
        self.assertEqual(after(USUAL, ((0, 0), (5, 6), (6, 7)), 1), ((0, 1), (0, 0), (0, 0)))

    def test_the_won_match(self):
        self.assertEqual(after(USUAL, ((1, 1), (5, 4), (3, 0)), 0), ((2, 1), (0, 0), (0, 0)))
        self.assertEqual(after(USUAL, ((1, 1), (4, 5), (2, 3)), 1), ((1, 2), (0, 0), (0, 0)))

    def test_the_match_needs_no_lead_of_two(self):
        self.assertEqual(winner(Rules(1, 1, 3), ((3, 2), (0, 0), (0, 0))), 0)
        self.assertEqual(winner(Rules(1, 1, 3), ((2, 3), (0, 0), (0, 0))), 1)

    def test_a_game_goes_on_while_the_lead_is_less_than_two(self):
        for level in (4, 5, 300, GREAT):
            even = ((0, 0), (3, 3), (level, level))
            ahead = ((0, 0), (3, 3), (level, level + 1))
            self.assertEqual(after(USUAL, even, 1), ahead)
            self.assertEqual(after(USUAL, ahead, 0), ((0, 0), (3, 3), (level + 1, level + 1)))
            self.assertEqual(after(USUAL, ahead, 1), ((0, 0), (3, 4), (0, 0)))

    def test_a_set_goes_on_while_the_lead_is_less_than_two(self):
        for level in (6, 7, 300, GREAT):
            even = ((1, 0), (level, level), (0, 3))
            ahead = ((1, 0), (level, level + 1), (0, 0))
            self.assertEqual(after(USUAL, even, 1), ahead)
            self.assertEqual(after(USUAL, ((1, 0), (level, level + 1), (3, 0)), 0),
                             ((1, 0), (level + 1, level + 1), (0, 0)))
            self.assertEqual(after(USUAL, ((1, 0), (level, level + 1), (0, 3)), 1), ((1, 1), (0, 0), (0, 0)))

    def test_one_point_one_game_one_set(self):
        rules = Rules(1, 1, 1)
        standing = begin()
        for wanted in (((0, 0), (0, 0), (1, 0)), ((0, 0), (1, 0), (0, 0)),
                       ((0, 0), (1, 0), (1, 0)), ((1, 0), (0, 0), (0, 0))):
            self.assertIsNone(winner(rules, standing))
            standing = after(rules, standing, 0)
            self.assertEqual(standing, wanted)
        self.assertEqual(winner(rules, standing), 0)

    def test_the_won_match_refuses_a_point(self):
        for numbers in ALL_RULES:
            rules = Rules(*numbers)
            for less in range(rules.sets()):
                for who in (0, 1):
                    self.assertRaises(Over, after, rules, ((rules.sets(), less), (0, 0), (0, 0)), who)
                    self.assertRaises(Over, after, rules, ((less, rules.sets()), (0, 0), (0, 0)), who)

    def test_standings_told_are_tuples_of_tuples_of_whole_numbers(self):
        for many in range(0, 49):
            self.check_kinds(played(USUAL, [1] * many))
        self.check_kinds(after(USUAL, ((1, 0), (5, 5), (3, 2)), 0))

    def check_kinds(self, standing):
        self.assertIs(type(standing), tuple)
        self.assertEqual(len(standing), 3)
        for pair in standing:
            self.assertIs(type(pair), tuple)
            self.assertEqual([type(number) for number in pair], [int, int])


class Winner(unittest.TestCase):
    def test_none_while_the_match_goes_on(self):
        for standing in (BEGIN, ((1, 1), (0, 0), (0, 0)), ((1, 1), (5, 4), (3, 0)), ((0, 1), (8, 9), (40, 41))):
            self.assertIsNone(winner(USUAL, standing))

    def test_the_one_who_has_the_sets(self):
        for sets in (1, 2, 3):
            for less in range(sets):
                self.check_number(winner(Rules(4, 6, sets), ((sets, less), (0, 0), (0, 0))), 0)
                self.check_number(winner(Rules(4, 6, sets), ((less, sets), (0, 0), (0, 0))), 1)

    def check_number(self, told, wanted):
        self.assertIs(type(told), int)
        self.assertEqual(told, wanted)


class Refused(unittest.TestCase):
    def check_refused(self, rules, standing):
        with self.subTest(standing=standing if max(max(pair) for pair in standing) < 1000 else "great"):
            self.assertRaises(BadStanding, winner, rules, standing)
            self.assertRaises(BadStanding, after, rules, standing, 0)
            self.assertRaises(BadStanding, after, rules, standing, 1)

    def test_just_where_no_row_leads(self):
        # Numbers rise by one or fall to nought, and every game and set of these rules can be won below the bound:
        # so whatever lies within it is led to without leaving it.
        bound = 5
        pairs = list(itertools.product(range(-1, bound + 1), repeat=2))
        for numbers in ((1, 1, 1), (2, 1, 1), (3, 2, 1), (2, 4, 2), (5, 3, 2), (4, 1, 3)):
            rules = Rules(*numbers)
            reached = self.all_led_to(numbers, bound)
            for standing in itertools.product(pairs, pairs, pairs):
                if standing in reached:
                    self.assertEqual(winner(rules, standing), reached[standing])
                else:
                    self.assertRaises(BadStanding, winner, rules, standing)
                    self.assertRaises(BadStanding, after, rules, standing, 0)

    def all_led_to(self, numbers, bound):
        reached, waiting = {}, [(BEGIN, None)]
        while waiting:
            standing, who = waiting.pop()
            if standing in reached or max(max(pair) for pair in standing) > bound:
                continue
            reached[standing] = who
            if who is None:
                waiting.extend(self.step(numbers, standing, player) for player in (0, 1))
        return reached

    def step(self, numbers, standing, player):
        sets, games, points = [list(pair) for pair in standing]
        who = None
        points[player] += 1
        if points[player] >= numbers[0] and points[player] >= points[1 - player] + 2:
            points = [0, 0]
            games[player] += 1
            if games[player] >= numbers[1] and games[player] >= games[1 - player] + 2:
                games = [0, 0]
                sets[player] += 1
                if sets[player] == numbers[2]:
                    who = player
        return (tuple(sets), tuple(games), tuple(points)), who

    def test_negative_numbers(self):
        for less in (-1, -2, -GREAT):
            for place in range(6):
                flat = [0] * 6
                flat[place] = less
                self.check_refused(USUAL, (tuple(flat[0:2]), tuple(flat[2:4]), tuple(flat[4:6])))
            self.check_refused(USUAL, ((less, less), (0, 0), (0, 0)))
            self.check_refused(USUAL, ((0, 0), (less, less), (0, 0)))
            self.check_refused(USUAL, ((0, 0), (0, 0), (less, less)))
            self.check_refused(USUAL, ((2, less), (0, 0), (0, 0)))
            self.check_refused(USUAL, ((0, 0), (0, 0), (less, less - 1)))

    def test_level_far_up_is_a_standing(self):
        for great in (1000, GREAT):
            for lead in (0, 1):
                standing = ((1, 1), (great, great + lead), (great + lead, great))
                self.assertIsNone(winner(USUAL, standing))

    def test_far_apart_is_none(self):
        for great in (1000, GREAT):
            for less in (0, 3, great - 3, great - 2):
                self.check_refused(USUAL, ((0, 0), (0, 0), (great, less)))
                self.check_refused(USUAL, ((0, 0), (0, 0), (less, great)))
                self.check_refused(USUAL, ((0, 0), (great, less), (0, 0)))
                self.check_refused(USUAL, ((0, 0), (less, great), (0, 0)))

    def test_games_and_points_that_would_have_ended_earlier(self):
        for points in ((4, 0), (4, 2), (2, 4), (5, 0), (5, 3), (9, 7), (7, 9)):
            self.check_refused(USUAL, ((0, 0), (0, 0), points))
        for games in ((6, 0), (6, 4), (4, 6), (7, 0), (7, 5), (9, 7), (7, 9)):
            self.check_refused(USUAL, ((1, 0), games, (0, 0)))
        for points in ((3, 0), (0, 3), (4, 3), (3, 4), (4, 4), (9, 8)):
            self.assertIsNone(winner(USUAL, ((0, 0), (0, 0), points)))
        for games in ((5, 0), (0, 5), (6, 5), (5, 6), (6, 6), (9, 8)):
            self.assertIsNone(winner(USUAL, ((1, 0), games, (0, 0))))

    def test_sets_beyond_the_rules(self):
        for sets in ((3, 0), (0, 3), (2, 2), (3, 2), (3, 3), (GREAT, 0), (0, GREAT), (GREAT, GREAT)):
            self.check_refused(USUAL, (sets, (0, 0), (0, 0)))

    def test_games_or_points_behind_the_end_ahead_of_over(self):
        for sets in ((2, 0), (2, 1), (0, 2), (1, 2)):
            for left in ((1, 0), (0, 1), (3, 3), (-1, 0), (GREAT, GREAT)):
                self.check_refused(USUAL, (sets, left, (0, 0)))
                self.check_refused(USUAL, (sets, (0, 0), left))
                self.check_refused(USUAL, (sets, left, left))


if __name__ == "__main__":
    unittest.main()
