"""Point 1: lists that are told are the asker's own, no two of them one."""

import unittest

from boardkin.counting import how_many, how_many_with, left, rounds
from boardkin.deeds import deeds, turnings
from boardkin.families import alike, families, kin, least, leaving
from helper import board

BOARD = board("12 21")

# Each function that tells a list, with what it is asked and what it tells.
TELLING = [
    (turnings, ("hm",), [0, 2, 4, 6]),
    (turnings, ("",), [0]),
    (deeds, ("s", 2, 1), [(0, 0, 0), (0, 1, 0)]),
    (deeds, ("m", 3, 2), [(0, 0, 0), (4, 0, 0)]),
    (deeds, ("", 3, 2), [(0, 0, 0)]),
    (kin, (BOARD, "q"), [board("12 21"), board("21 12")]),
    (kin, (BOARD, ""), [BOARD]),
    (leaving, (BOARD, "h"), [(0, 0, 0), (2, 0, 0)]),
    (leaving, (BOARD, ""), [(0, 0, 0)]),
    (families, (2, "h", 2, 1), [board("00"), board("01"), board("11")]),
    (families, (1, "h", 2, 1), [board("00")]),
    (rounds, ((1, 0, 0), 3, 3), [1, 4, 4]),
    (rounds, ((0, 0, 0), 2, 1), [1, 1]),
]


def spoil(told):
    told.append(99)
    told[0] = 77
    told.reverse()


class Lists(unittest.TestCase):
    def test_a_list_that_was_changed_changes_no_later_answer(self):
        for function, asked, answer in TELLING:
            with self.subTest(function=function.__name__, asked=asked):
                spoil(function(*asked))
                self.assertEqual(function(*asked), answer)
                function(*asked).clear()
                self.assertEqual(function(*asked), answer)

    def test_no_two_lists_are_one(self):
        for function, asked, answer in TELLING:
            with self.subTest(function=function.__name__, asked=asked):
                first = function(*asked)
                second = function(*asked)
                self.assertIsNot(first, second)
                spoil(first)
                self.assertEqual(second, answer)

    def test_lists_of_unlike_functions_are_not_one(self):
        told = [function(*asked) for function, asked, answer in TELLING]
        for each in told:
            each.append(99)
        self.assertEqual([each[:-1] for each in told], [answer for function, asked, answer in TELLING])

    def test_no_other_answer_hangs_on_a_list_that_was_changed(self):
        for function, asked, answer in TELLING:
            spoil(function(*asked))
        self.assertEqual(least(BOARD, "q"), BOARD)
        self.assertEqual(alike(BOARD, board("21 12"), "q"), (1, 0, 0))
        self.assertEqual(left(2, (1, 0, 0), 3, 3), 8)
        self.assertEqual(how_many(2, "h", 2, 1), 3)
        self.assertEqual(how_many_with([1, 1], "h", 2, 1), 1)


if __name__ == "__main__":
    unittest.main()
