import itertools
import time
import unittest

from courtscore.errors import NoSuch
from courtscore.rows import many_rows, number_of, row_at
from courtscore.standings import Rules, after, begin, winner

GREAT = 10 ** 5000
ALL_RULES = list(itertools.product(range(1, 6), range(1, 7), range(1, 4)))
SOME_RULES = ((1, 1, 1), (2, 1, 1), (1, 2, 2), (2, 2, 3), (3, 1, 1), (3, 2, 1), (2, 3, 1), (5, 1, 1), (1, 1, 3),
              (2, 6, 1), (5, 6, 3))


def place_of_end(numbers, row):
    # The number of points up to the end of the match, counted apart from the program; None where it doesn't end.
    sets, games, points = [0, 0], [0, 0], [0, 0]
    for place, who in enumerate(row):
        points[who] += 1
        if points[who] < numbers[0] or points[who] - points[1 - who] < 2:
            continue
        points = [0, 0]
        games[who] += 1
        if games[who] < numbers[1] or games[who] - games[1 - who] < 2:
            continue
        games = [0, 0]
        sets[who] += 1
        if sets[who] == numbers[2]:
            return place + 1
    return None


def rows_one_by_one(numbers, many):
    # In their order, since product goes from 0 to 1 at the last place first.
    return [list(row) for row in itertools.product((0, 1), repeat=many) if place_of_end(numbers, row) == many]


def counted_forward(rules, most):
    # How many rows end at each number of points, standing by standing as they are.
    counts, going = [0], {begin(): 1}
    for gone in range(most):
        later, ended = {}, 0
        for standing, ways in going.items():
            for who in (0, 1):
                behind = after(rules, standing, who)
                if winner(rules, behind) is None:
                    later[behind] = later.get(behind, 0) + ways
                else:
                    ended += ways
        counts.append(ended)
        going = later
    return counts


def shortest(numbers):
    return max(numbers[0], 2) * max(numbers[1], 2) * numbers[2]


class ManyRows(unittest.TestCase):
    def test_against_all_rows_one_by_one(self):
        for numbers in SOME_RULES:
            for many in range(13):
                with self.subTest(numbers=numbers, many=many):
                    self.assertEqual(many_rows(Rules(*numbers), many), len(rows_one_by_one(numbers, many)))

    def test_known_numbers(self):
        rules = Rules(1, 1, 1)
        self.assertEqual([many_rows(rules, many) for many in range(9)], [0, 0, 0, 0, 2, 0, 8, 0, 28])
        self.assertIs(type(many_rows(rules, 4)), int)

    def test_no_points_end_no_match(self):
        for numbers in ALL_RULES:
            self.assertEqual(many_rows(Rules(*numbers), 0), 0)

    def test_the_shortest_rows(self):
        for numbers in ALL_RULES:
            rules, least = Rules(*numbers), shortest(numbers)
            if least <= 40:
                self.assertEqual(many_rows(rules, least), 2)
                self.assertEqual(many_rows(rules, least - 1), 0)

    def test_up_to_thirty_points_against_a_count_forward(self):
        for numbers in ((1, 1, 1), (2, 2, 2), (1, 1, 3), (3, 2, 2), (5, 2, 1), (4, 3, 2), (5, 6, 1), (2, 5, 2)):
            rules = Rules(*numbers)
            wanted = counted_forward(rules, 30)
            for many in (13, 14, 18, 20, 25, 28, 29, 30):
                self.assertEqual(many_rows(rules, many), wanted[many])

    def test_somewhat_beyond_the_bound(self):
        rules = Rules(2, 2, 1)
        wanted = counted_forward(rules, 40)
        self.assertEqual([many_rows(rules, many) for many in range(31, 41)], wanted[31:])
        self.assertEqual(many_rows(rules, -1), 0)
        self.assertGreater(many_rows(rules, 300), 0)

    def test_all_rules_within_a_short_time(self):
        started = time.perf_counter()
        for numbers in ALL_RULES:
            for many in (0, 15, 29, 30):
                told = many_rows(Rules(*numbers), many)
                if many < shortest(numbers):
                    self.assertEqual(told, 0)
        self.assertLess(time.perf_counter() - started, 30)


class Numbers(unittest.TestCase):
    def test_each_row_has_its_number(self):
        for numbers in SOME_RULES:
            rules = Rules(*numbers)
            for many in range(12):
                for number, row in enumerate(rows_one_by_one(numbers, many)):
                    with self.subTest(numbers=numbers, row=row):
                        self.assertEqual(row_at(rules, many, number), row)
                        self.assertEqual(number_of(rules, row), number)

    def test_there_and_back_and_in_order_up_to_thirty_points(self):
        for numbers in ((1, 1, 1), (2, 2, 2), (1, 1, 3), (3, 3, 1), (5, 2, 2), (4, 3, 2), (5, 6, 1)):
            rules = Rules(*numbers)
            for many in (24, 27, 30):
                whole = many_rows(rules, many)
                some = sorted({number for number in (0, 1, 2, whole // 3, whole // 2 - 1, whole // 2, whole - 2,
                                                     whole - 1) if 0 <= number < whole})
                rows = [row_at(rules, many, number) for number in some]
                self.assertEqual(sorted(rows), rows)
                for number, row in zip(some, rows):
                    self.assertEqual(len(row), many)
                    self.assertEqual(place_of_end(numbers, row), many)
                    self.assertEqual(number_of(rules, row), number)

    def test_the_first_and_the_last_row(self):
        self.assertEqual(row_at(Rules(5, 6, 1), 30, 0), [0] * 30)
        self.assertEqual(row_at(Rules(5, 6, 1), 30, 1), [1] * 30)
        self.assertEqual(number_of(Rules(5, 6, 1), [1] * 30), 1)

    def test_somewhat_beyond_the_bound(self):
        rules = Rules(4, 5, 2)
        self.assertEqual(row_at(rules, 40, 1), [1] * 40)
        self.assertEqual(number_of(rules, [0] * 40), 0)
        for number in (0, 123456, many_rows(rules, 44) - 1):
            self.assertEqual(number_of(rules, row_at(rules, 44, number)), number)

    def test_kinds(self):
        row = row_at(Rules(1, 1, 1), 6, 3)
        self.assertIs(type(row), list)
        self.assertEqual({type(who) for who in row}, {int})
        self.assertIs(type(number_of(Rules(1, 1, 1), row)), int)

    def test_arguments_have_their_names(self):
        rules = Rules(1, 1, 1)
        self.assertEqual(many_rows(rules=rules, many=4), 2)
        self.assertEqual(row_at(rules=rules, many=4, number=1), [1, 1, 1, 1])
        self.assertEqual(number_of(rules=rules, row=[1, 1, 1, 1]), 1)


class Refused(unittest.TestCase):
    def test_numbers_that_no_row_has(self):
        for numbers in SOME_RULES:
            rules = Rules(*numbers)
            for many in (0, 1, 3, 4, 6, 12, 30):
                whole = many_rows(rules, many)
                for number in (-1, -2, -GREAT, whole, whole + 1, GREAT):
                    self.assertRaises(NoSuch, row_at, rules, many, number)
                if whole > 0:
                    self.assertEqual(place_of_end(numbers, row_at(rules, many, whole - 1)), many)
        self.assertRaises(NoSuch, row_at, Rules(1, 1, 1), -1, 0)

    def test_rows_that_end_no_match(self):
        for numbers in SOME_RULES:
            rules = Rules(*numbers)
            for row in ([], [0], [1], [0, 1], [0, 1] * 15, [0] * (shortest(numbers) - 1)):
                self.assertRaises(NoSuch, number_of, rules, row)

    def test_rows_with_points_behind_the_end(self):
        for numbers in SOME_RULES:
            rules = Rules(*numbers)
            for who in (0, 1):
                row = [who] * shortest(numbers)
                self.assertEqual(number_of(rules, row), who)
                for more in ([0], [1], [0, 1], row):
                    self.assertRaises(NoSuch, number_of, rules, row + more)

    def test_just_the_short_rows_that_end_a_match_are_taken(self):
        for numbers in ((1, 1, 1), (3, 1, 1), (1, 1, 2)):
            rules = Rules(*numbers)
            for many in range(10):
                for row in itertools.product((0, 1), repeat=many):
                    if place_of_end(numbers, row) != many:
                        self.assertRaises(NoSuch, number_of, rules, list(row))


class TheAskersOwn(unittest.TestCase):
    def test_two_lists_for_the_same_number_are_not_one(self):
        rules = Rules(2, 2, 1)
        one, other = row_at(rules, 6, 2), row_at(rules, 6, 2)
        self.assertEqual(one, other)
        self.assertIsNot(one, other)
        kept = list(other)
        one[0] = 1 - one[0]
        one.append(7)
        self.assertEqual(other, kept)
        self.assertEqual(row_at(rules, 6, 2), kept)
        self.assertEqual(number_of(rules, kept), 2)
        self.assertEqual(many_rows(rules, 6), 8)

    def test_the_row_handed_in_stays_as_it_was_and_is_not_kept(self):
        rules = Rules(1, 1, 1)
        row = [0, 1, 0, 0, 0, 0]
        number = number_of(rules, row)
        self.assertEqual(row, [0, 1, 0, 0, 0, 0])
        row[0] = 1
        row.append(1)
        self.assertEqual(row_at(rules, 6, number), [0, 1, 0, 0, 0, 0])
        for refused in ([], [0, 1], [0] * 9):
            kept = list(refused)
            self.assertRaises(NoSuch, number_of, rules, refused)
            self.assertEqual(refused, kept)

    def test_what_was_asked_earlier_changes_nothing(self):
        asked = [(many_rows, Rules(*numbers), many) for numbers in SOME_RULES for many in (4, 12, 8)]
        first = [ask(rules, many) for ask, rules, many in asked]
        self.assertEqual([ask(rules, many) for ask, rules, many in reversed(asked)], first[::-1])


if __name__ == "__main__":
    unittest.main()
