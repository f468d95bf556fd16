"""Points 6 and 9: the least boards of all families of a size with so many colours."""

import unittest

from boardkin.errors import NoKinship, NotSquare, TooMany
from boardkin.families import families
from helper import (
    KINSHIPS, NO_KINSHIPS, SIZES, asked_families, board, every_board, fitting_kinships, good_time, plain_board,
)

# Colours, width and height.
SMALL = [
    (1, 1, 1), (2, 1, 1), (10, 1, 1), (2, 2, 1), (3, 1, 2), (2, 3, 1), (3, 1, 3), (2, 4, 1), (5, 1, 4), (3, 2, 2),
    (5, 2, 2), (2, 3, 2), (3, 3, 2), (2, 2, 3), (2, 2, 4), (2, 8, 1), (2, 3, 3),
]
LARGEST = [(10, 3, 1), (10, 1, 3), (4, 5, 1), (4, 1, 5), (2, 5, 2), (2, 2, 5)]
LARGER = [
    (2, 4, 3), (2, 3, 4), (3, 7, 1), (3, 1, 7), (6, 2, 2), (6, 4, 1), (10, 4, 1), (10, 2, 2), (2, 8, 8), (10, 8, 8),
]


class Families(unittest.TestCase):
    def holds(self, colours, kinship, width, height, asked):
        with self.subTest(colours=colours, kinship=kinship, width=width, height=height):
            self.assertEqual(families(colours, kinship, width, height), [board(each) for each in asked])

    def test_by_hand(self):
        self.holds(2, "", 2, 1, ["00", "01", "10", "11"])
        self.holds(2, "h", 2, 1, ["00", "01", "11"])
        self.holds(2, "m", 1, 2, ["0 0", "0 1", "1 0", "1 1"])
        self.holds(3, "s", 1, 2, ["0 0", "0 1", "0 2", "1 1", "1 2", "2 2"])
        self.holds(2, "s", 2, 2, ["00 00", "00 01", "00 11", "01 01", "01 10", "01 11", "11 11"])
        self.holds(2, "qs", 2, 2, ["00 00", "00 01", "00 11", "01 10", "01 11", "11 11"])
        self.holds(3, "s", 3, 1, ["000", "001", "002", "011", "012", "021", "022", "111", "112", "122", "222"])
        self.holds(3, "ms", 3, 1, ["000", "001", "002", "011", "012", "022", "111", "112", "122", "222"])
        self.holds(3, "hqms", 1, 1, ["0", "1", "2"])

    def test_against_all_boards_gone_through_one_by_one(self):
        for colours, width, height in SMALL:
            boards = every_board(colours, width, height)
            for kinship in fitting_kinships(width, height):
                asked = asked_families(boards, kinship)
                told = families(colours, kinship, width, height)
                self.assertEqual(told, asked, (colours, kinship, width, height))
                self.assertEqual(told, sorted(told))

    def test_with_one_colour(self):
        for width, height in SIZES:
            for kinship in fitting_kinships(width, height):
                told = families(1, kinship, width, height)
                self.assertEqual(told, [plain_board(width, height)], (kinship, width, height))

    def test_a_thousand_boards_and_somewhat_more(self):
        for colours, width, height in LARGEST:
            boards = every_board(colours, width, height)
            self.assertIn(len(boards), (1000, 1024))
            for kinship in ("", "m", "hms"):
                with good_time():
                    told = families(colours, kinship, width, height)
                self.assertEqual(told, asked_families(boards, kinship), (colours, kinship, width, height))

    def test_told_is_a_list_of_boards(self):
        told = families(2, "s", 2, 2)
        self.assertIs(type(told), list)
        for each in told:
            self.assertEqual([type(each), type(each[0]), type(each[1])], [tuple, tuple, tuple])
            self.assertEqual([type(colour) for row in each for colour in row], [int] * 4)

    def test_colours_and_sizes_somewhat_beyond_the_bounds_are_not_refused(self):
        self.assertEqual(families(12, "m", 2, 1), asked_families(every_board(12, 2, 1), "m"))
        self.assertEqual(families(2, "hs", 9, 1), asked_families(every_board(2, 9, 1), "hs"))
        self.assertEqual(families(1, "hms", 9, 10), [plain_board(9, 10)])

    def test_arguments_by_their_names(self):
        self.assertEqual(families(colours=2, kinship="m", width=1, height=1), [board("0"), board("1")])


class Refusals(unittest.TestCase):
    def refused(self, colours, kinship, width, height, error):
        with self.subTest(colours=colours, kinship=kinship, width=width, height=height):
            with self.assertRaises(error):
                families(colours, kinship, width, height)

    def test_more_than_1100_boards(self):
        for colours, width, height in LARGER:
            for kinship in fitting_kinships(width, height):
                with good_time():
                    self.refused(colours, kinship, width, height, TooMany)

    def test_1100_boards_and_one_more(self):
        self.assertEqual(len(families(1100, "", 1, 1)), 1100)
        self.refused(1101, "", 1, 1, TooMany)
        self.assertEqual(len(families(33, "", 2, 1)), 1089)
        self.refused(34, "", 2, 1, TooMany)

    def test_few_families_of_too_many_boards_are_refused_too(self):
        self.refused(2, "hqms", 4, 4, TooMany)
        self.refused(6, "hqms", 2, 2, TooMany)

    def test_texts_that_are_no_kinship(self):
        for text in NO_KINSHIPS:
            self.refused(2, text, 2, 2, NoKinship)

    def test_no_kinship_comes_ahead_of_not_square_and_too_many(self):
        for text in NO_KINSHIPS:
            self.refused(2, text, 3, 2, NoKinship)
            self.refused(10, text, 8, 8, NoKinship)
            self.refused(10, text, 8, 7, NoKinship)

    def test_not_square_comes_ahead_of_too_many(self):
        for kinship in KINSHIPS:
            if "q" in kinship:
                self.refused(2, kinship, 3, 2, NotSquare)
                self.refused(1, kinship, 1, 2, NotSquare)
                self.refused(10, kinship, 8, 7, NotSquare)
                self.refused(3, kinship, 7, 1, NotSquare)


if __name__ == "__main__":
    unittest.main()
