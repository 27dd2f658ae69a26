"""What the document promises over the whole program: nothing handed in is changed or kept, nothing asked is kept."""
import ast
import copy
import importlib
import inspect
import pathlib
import sys
import unittest

from courtscore.chances import chance, points_to_come
from courtscore.errors import CourtError
from courtscore.notes import read, shown
from courtscore.rows import many_rows, number_of, row_at
from courtscore.standings import Rules, after, begin, played, winner

PACKAGE = pathlib.Path(__file__).resolve().parent.parent / "courtscore"
MODULES = ["courtscore." + name for name in ("chances", "errors", "notes", "parts", "rows", "standings")]
INTERFACE = {
    "courtscore.standings": {"begin": [], "winner": ["rules", "standing"], "after": ["rules", "standing", "who"],
                             "played": ["rules", "row"], "Rules": ["points", "games", "sets"]},
    "courtscore.chances": {"chance": ["rules", "standing", "part"], "points_to_come": ["rules", "standing", "part"]},
    "courtscore.rows": {"many_rows": ["rules", "many"], "row_at": ["rules", "many", "number"],
                        "number_of": ["rules", "row"]},
    "courtscore.notes": {"shown": ["rules", "standing"], "read": ["rules", "text"]},
}


def answer(ask, handed_in):
    try:
        return ask(*handed_in)
    except CourtError as refused:
        return refused.__class__


def questions(rules):
    standings = (begin(), ((0, 0), (7, 7), (9, 8)), ((1, 0), (0, 0), (0, 0)), ((0, 0), (0, 9), (0, 0)))
    asked = [(begin, [])]
    for standing in standings:
        asked += [(winner, [rules, standing]), (after, [rules, standing, 1]), (shown, [rules, standing])]
        for part in ((1, 2), (1, 1), (2, 7), (3, 2)):
            asked += [(chance, [rules, standing, part]), (points_to_come, [rules, standing, part])]
    for row in ([], [0, 0, 1], [1] * 4, [0] * 8, [0, 1, 0, 0, 0, 0]):
        asked += [(played, [rules, row]), (number_of, [rules, row])]
    for many, number in ((4, 0), (6, 3), (8, 11), (6, -1), (12, 5)):
        asked += [(many_rows, [rules, many]), (row_at, [rules, many, number])]
    return asked + [(read, [rules, text]) for text in ("0:0 7:7 9:8", "1:0 0:0 0:0", "0:0 0:0 0:0\n")]


class Whole(unittest.TestCase):
    def test_the_names_and_arguments_of_the_interface(self):
        for name, functions in INTERFACE.items():
            module = importlib.import_module(name)
            for function, arguments in functions.items():
                self.assertEqual(list(inspect.signature(getattr(module, function)).parameters), arguments)

    def test_nothing_asked_earlier_changes_what_is_told_later(self):
        asked = [question for numbers in ((1, 1, 1), (2, 1, 2), (5, 6, 3)) for question in questions(Rules(*numbers))]
        first = [answer(*question) for question in asked]
        self.assertEqual([answer(*question) for question in reversed(asked)], first[::-1])
        self.assertEqual([answer(*question) for question in asked], first)

    def test_nothing_handed_in_is_changed(self):
        rules = Rules(2, 1, 1)
        for ask, handed_in in questions(rules):
            kept = copy.deepcopy(handed_in[1:])
            answer(ask, handed_in)
            self.assertEqual(handed_in[1:], kept)
            self.assertEqual(vars(rules), vars(Rules(2, 1, 1)))

    def test_nothing_is_kept_in_the_modules(self):
        def held():
            return [copy.deepcopy({name: value for name, value in vars(sys.modules[module]).items()
                                   if isinstance(value, (int, str, list, tuple, dict)) and not name.startswith("__")})
                    for module in MODULES]
        before = held()
        for ask, handed_in in questions(Rules(1, 1, 1)):
            answer(ask, handed_in)
        self.assertEqual(held(), before)

    def test_lists_told_are_the_asker_s_own(self):
        rules = Rules(1, 1, 1)
        told = [row_at(rules, 6, number) for number in (0, 1, 0, 7, 7)]
        self.assertEqual(len({id(row) for row in told}), len(told))
        kept = copy.deepcopy(told)
        told[0].clear()
        told[3].append(0)
        self.assertEqual([row_at(rules, 6, number) for number in (0, 1, 0, 7, 7)], kept)

    def test_no_clock_no_random_source_no_files(self):
        for file in sorted(PACKAGE.rglob("*.py")):
            for node in ast.walk(ast.parse(file.read_text("utf-8"))):
                self.assertNotIsInstance(node, ast.Import)
                if isinstance(node, ast.ImportFrom):
                    self.assertTrue(node.module.startswith("courtscore."))
                if isinstance(node, ast.Name):
                    self.assertNotIn(node.id, ("open", "input", "print", "id", "hash", "exec", "eval", "__import__"))


if __name__ == "__main__":
    unittest.main()
