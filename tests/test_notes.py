import itertools
import re
import sys
import unittest

from courtscore.errors import BadStanding, NoText
from courtscore.notes import read, shown
from courtscore.standings import Rules, after, begin, played, winner

BEGIN = ((0, 0), (0, 0), (0, 0))
USUAL = Rules(4, 6, 2)
SIGNS = "\t\n" + "".join(chr(code) for code in range(ord(" "), ord("~") + 1) if chr(code) != "%")
FORM = re.compile(r"([0-9]+):([0-9]+) ([0-9]+):([0-9]+) ([0-9]+):([0-9]+)")


def standing_of(rules, text):
    # What the text writes, told apart from the program; None where it is to be refused.
    found = FORM.fullmatch(text)
    if found is None or any(len(one) > 9 or one != str(int(one)) for one in found.groups()):
        return None
    flat = [int(one) for one in found.groups()]
    standing = (tuple(flat[0:2]), tuple(flat[2:4]), tuple(flat[4:6]))
    try:
        winner(rules, standing)
    except BadStanding:
        return None
    return standing


def all_up_to(rules, most):
    reached, waiting = {}, [begin()]
    while waiting:
        standing = waiting.pop()
        if standing in reached or max(max(pair) for pair in standing) > most:
            continue
        reached[standing] = True
        if winner(rules, standing) is None:
            waiting.extend(after(rules, standing, who) for who in (0, 1))
    return list(reached)


class Shown(unittest.TestCase):
    def test_sign_by_sign(self):
        self.assertEqual(shown(USUAL, BEGIN), "0:0 0:0 0:0")
        self.assertEqual(shown(USUAL, ((1, 0), (5, 5), (3, 2))), "1:0 5:5 3:2")
        self.assertEqual(shown(USUAL, ((0, 1), (10, 11), (100, 99))), "0:1 10:11 100:99")
        self.assertEqual(shown(USUAL, ((1, 2), (0, 0), (0, 0))), "1:2 0:0 0:0")
        self.assertEqual(shown(USUAL, played(USUAL, [0, 0, 0, 0, 1])), "0:0 1:0 0:1")
        self.assertIs(type(shown(USUAL, BEGIN)), str)

    def test_level_far_up(self):
        for high in (99, 999999998, 999999999, 10 ** 9, 10 ** 18, 10 ** 27 - 1, 10 ** 27, 7 * 10 ** 99 + 30):
            self.assertEqual(shown(USUAL, ((0, 0), (high, high + 1), (high + 1, high))),
                             f"0:0 {high}:{high + 1} {high + 1}:{high}")

    def test_numbers_that_python_does_not_write_at_once(self):
        high = 10 ** 6000 + 10 ** 3000 + 5
        figures = "1" + "0" * 2999 + "1" + "0" * 2999 + "5"
        self.assertEqual(shown(USUAL, ((1, 1), (high, high), (0, 3))), f"1:1 {figures}:{figures} 0:3")
        self.assertGreater(len(figures), sys.get_int_max_str_digits())

    def test_what_is_no_standing_is_refused(self):
        great = 10 ** 5000
        for standing in (((-1, 0), (0, 0), (0, 0)), ((0, 0), (0, 0), (4, 2)), ((0, 0), (6, 4), (0, 0)),
                         ((2, 2), (0, 0), (0, 0)), ((3, 0), (0, 0), (0, 0)), ((2, 0), (0, 0), (1, 0)),
                         ((0, 2), (1, 0), (0, 0)), ((0, 0), (0, 0), (great, 0)), ((0, 0), (great, great + 2), (0, 0)),
                         ((great, great), (0, 0), (0, 0)), ((0, 0), (0, 0), (-great, -great))):
            self.assertRaises(BadStanding, shown, USUAL, standing)

    def test_the_rules_decide(self):
        standing = ((0, 0), (3, 0), (0, 0))
        self.assertEqual(shown(Rules(1, 4, 1), standing), "0:0 3:0 0:0")
        self.assertRaises(BadStanding, shown, Rules(1, 3, 1), standing)

    def test_arguments_have_their_names(self):
        self.assertEqual(shown(rules=USUAL, standing=BEGIN), "0:0 0:0 0:0")
        self.assertEqual(read(rules=USUAL, text="0:0 0:0 0:0"), BEGIN)


class Read(unittest.TestCase):
    def check(self, rules, text):
        wanted = standing_of(rules, text)
        with self.subTest(text=text):
            if wanted is None:
                self.assertRaises(NoText, read, rules, text)
            else:
                self.assertEqual(read(rules, text), wanted)
                self.assertEqual(shown(rules, wanted), text)

    def test_what_was_written_is_read(self):
        for numbers in ((1, 1, 1), (2, 2, 2), (4, 6, 2), (5, 6, 3)):
            rules = Rules(*numbers)
            for standing in all_up_to(rules, max(numbers) + 1)[::7]:
                self.assertEqual(read(rules, shown(rules, standing)), standing)
        for high in (10, 12345, 99999999, 999999998):
            standing = ((1, 1), (high, high + 1), (high + 1, high))
            self.assertEqual(read(USUAL, shown(USUAL, standing)), standing)

    def test_kinds(self):
        standing = read(USUAL, "1:0 5:5 3:2")
        self.assertEqual(standing, ((1, 0), (5, 5), (3, 2)))
        self.assertIs(type(standing), tuple)
        for pair in standing:
            self.assertIs(type(pair), tuple)
            self.assertEqual([type(number) for number in pair], [int, int])

    def test_nine_figures_are_the_most(self):
        self.assertEqual(read(USUAL, "0:0 0:0 999999999:999999999"), ((0, 0), (0, 0), (999999999, 999999999)))
        self.assertEqual(read(USUAL, "0:0 999999999:999999998 0:0"), ((0, 0), (999999999, 999999998), (0, 0)))
        for high in (10 ** 9, 1234567890, 10 ** 20, 10 ** 40):
            standing = ((0, 0), (0, 0), (high, high))
            self.assertRaises(NoText, read, USUAL, shown(USUAL, standing))
            self.assertRaises(NoText, read, USUAL, shown(USUAL, ((0, 0), (high, high), (0, 0))))
        self.assertRaises(NoText, read, USUAL, "0:0 0:0 1000000000:999999999")
        self.assertRaises(NoText, read, USUAL, "0:0 0:0 999999999:1000000000")
        self.assertRaises(NoText, read, USUAL, "0:0 0:0 0000000003:3")

    def test_other_texts_are_refused(self):
        for text in ("", " ", ":", "\n", "\t", "0", "0:0", "0:0 0:0", "0:0 0:0 ", "0:0 0:0 0:0 0:0", "0:0 0:0 0:0 ",
                     " 0:0 0:0 0:0", "0:0  0:0 0:0", "0:0 0:0  0:0", "0:00:0 0:0", "0:0 0:00:0", "0 :0 0:0 0:0",
                     "0: 0 0:0 0:0", "00:0 0:0 0:0", "0:00 0:0 0:0", "01:0 0:0 0:0", "1:0 05:5 3:2", "1:0 5:5 3:02",
                     "+1:0 5:5 3:2", "1:-0 5:5 3:2", "-1:0 0:0 0:0", "1:0 5:5 3:+2", "1:0 5:5 3:2\n", "\n1:0 5:5 3:2",
                     "1:0\n5:5 3:2", "1:0 5:5\t3:2", "1:0\t5:5\t3:2", "1:0 5:5 3:2\t", "1:0 5:5 3:\n2", "1:0 5:5 3:2 ",
                     "1-0 5-5 3-2", "1:0,5:5,3:2", "1:0, 5:5, 3:2", "1;0 5:5 3:2", "1:0:5:5:3:2", "1 0 5 5 3 2",
                     "1:0 5:5 3", "1:0 5:5 :2", "1:0 5:5 3:", "1::0 5:5 3:2", "1:0:0 5:5 3:2", "1:0 5:5 3:2.0",
                     "1:0 5:5 3:1_0", "1:0 5:5 3:0x2", "1:0 5:5 3:2e0", "a:b c:d e:f", "((1, 0), (5, 5), (3, 2))",
                     "\"1:0 5:5 3:2\"", "0" * 100, " " * 100, "9" * 100, "0:0 " * 25, "~" * 100, "0:0 0:0 " * 20):
            self.assertIsNone(standing_of(USUAL, text))
            self.check(USUAL, text)

    def test_what_is_no_standing_is_refused(self):
        for text in ("2:2 0:0 0:0", "3:0 0:0 0:0", "2:0 1:0 0:0", "0:2 0:0 0:1", "0:0 6:4 0:0", "0:0 7:5 0:0",
                     "0:0 0:0 4:2", "0:0 0:0 4:0", "0:0 0:0 999999999:0", "0:0 999999999:999999997 0:0",
                     "999999999:0 0:0 0:0", "999999999:999999999 0:0 0:0"):
            self.assertRaises(NoText, read, USUAL, text)
        self.assertEqual(read(Rules(5, 6, 3), "2:2 0:0 4:2"), ((2, 2), (0, 0), (4, 2)))

    def test_all_small_numbers(self):
        for numbers in ((1, 1, 1), (2, 3, 2)):
            rules = Rules(*numbers)
            for flat in itertools.product(range(4), repeat=6):
                self.check(rules, "{}:{} {}:{} {}:{}".format(*flat))

    def test_each_text_one_sign_away(self):
        for text in ("0:0 0:0 0:0", "1:0 5:5 3:2", "1:1 10:11 120:119", "2:0 0:0 0:0", "0:1 999999999:999999998 0:3"):
            for place in range(len(text) + 1):
                for sign in SIGNS:
                    self.check(USUAL, text[:place] + sign + text[place:])
                    self.check(USUAL, text[:place] + sign + text[place + 1:])
                self.check(USUAL, text[:place] + text[place + 1:])

    def test_what_was_asked_earlier_changes_nothing(self):
        self.assertEqual(read(USUAL, "1:0 5:5 3:2"), ((1, 0), (5, 5), (3, 2)))
        self.assertRaises(NoText, read, Rules(3, 5, 1), "1:0 5:5 3:2")
        self.assertRaises(NoText, read, USUAL, "1:0 5:5 3:2 ")
        self.assertEqual(read(USUAL, "1:0 5:5 3:2"), ((1, 0), (5, 5), (3, 2)))


if __name__ == "__main__":
    unittest.main()
