"""Point 6: the first deed that leads one board to another."""

import unittest

from boardkin.errors import NoKinship, NotSquare, UnlikeSizes
from boardkin.families import alike
from helper import (
    KINSHIPS, NO_KINSHIPS, asked_deeds, board, every_board, fitting_kinships, good_time, led, lopsided_board,
    numbered_board, plain_board,
)

FEW_BOARDS = [(2, 1, 1), (2, 2, 1), (2, 1, 2), (3, 3, 1), (2, 1, 3), (2, 4, 1), (2, 2, 2)]


def asked_deed(one, other, kinship):
    for deed in asked_deeds(kinship, len(one[0]), len(one)):
        if led(one, deed) == other:
            return deed
    return None


class Alike(unittest.TestCase):
    def holds(self, one, other, kinship, asked):
        with self.subTest(one=one, other=other, kinship=kinship):
            self.assertEqual(alike(board(one), board(other), kinship), asked)

    def test_by_hand(self):
        self.holds("12 34", "31 42", "q", (1, 0, 0))
        self.holds("12 34", "24 13", "q", (3, 0, 0))
        self.holds("31 42", "12 34", "q", (3, 0, 0))
        self.holds("12 34", "43 21", "h", (2, 0, 0))
        self.holds("12 34", "21 43", "m", (4, 0, 0))
        self.holds("123 456", "312 645", "s", (0, 1, 0))
        self.holds("123 456", "564 231", "s", (0, 2, 1))
        self.holds("123 456", "465 132", "hms", (2, 1, 0))
        self.holds("123 456 789", "978 645 312", "hms", (6, 1, 0))

    def test_the_first_of_several_deeds(self):
        self.holds("12 34", "21 43", "ms", (0, 1, 0))
        self.holds("12", "21", "hm", (2, 0, 0))
        self.holds("12", "21", "hms", (0, 1, 0))
        self.holds("10 00", "00 01", "hqm", (2, 0, 0))
        self.holds("10 00", "00 01", "hqms", (0, 1, 1))
        self.holds("1010", "0101", "s", (0, 1, 0))

    def test_none_where_there_is_no_such_deed(self):
        self.holds("12 34", "21 43", "", None)
        self.holds("12 34", "21 43", "hq", None)
        self.holds("12 34", "12 43", "hqms", None)
        self.holds("12 34", "12 35", "hqms", None)
        self.holds("1 2", "2 1", "m", None)
        self.holds("123", "321", "s", None)
        self.holds("0", "1", "hqms", None)
        self.assertIs(alike(board("0"), board("1"), ""), None)

    def test_the_same_board_twice(self):
        for text in ("7", "12", "1 2", "11 11", "12 34", "123 456"):
            for kinship in fitting_kinships(len(board(text)[0]), len(board(text))):
                self.holds(text, text, kinship, (0, 0, 0))

    def test_against_all_deeds_done_one_by_one(self):
        for colours, width, height in FEW_BOARDS:
            boards = every_board(colours, width, height)
            for kinship in fitting_kinships(width, height):
                for one in boards:
                    for other in boards:
                        asked = asked_deed(one, other, kinship)
                        self.assertEqual(alike(one, other, kinship), asked, (one, other, kinship))

    def test_each_deed_of_boards_with_unlike_cells(self):
        for width, height in [(3, 3), (3, 2), (2, 3), (4, 1), (1, 4)]:
            one = numbered_board(width, height)
            for kinship in fitting_kinships(width, height):
                for deed in asked_deeds(kinship, width, height):
                    other = led(one, deed)
                    asked = asked_deed(one, other, kinship)
                    self.assertEqual(alike(one, other, kinship), asked, (deed, kinship))

    def test_eight_by_eight_with_all_letters(self):
        one = lopsided_board(8, 8)
        with good_time():
            self.assertEqual(alike(one, led(one, (7, 7, 7)), "hqms"), (7, 7, 7))
            self.assertEqual(alike(one, led(one, (5, 0, 3)), "hqms"), (5, 0, 3))
            self.assertIs(alike(one, plain_board(8, 8), "hqms"), None)

    def test_told_is_a_tuple_of_whole_numbers(self):
        told = alike(board("12 34"), board("31 42"), "hqms")
        self.assertIs(type(told), tuple)
        self.assertEqual([type(number) for number in told], [int] * 3)

    def test_boards_somewhat_beyond_the_bounds_are_not_refused(self):
        one = numbered_board(10, 9)
        self.assertEqual(alike(one, led(one, (6, 9, 8)), "hms"), (6, 9, 8))

    def test_arguments_by_their_names(self):
        self.assertEqual(alike(one=board("12"), other=board("21"), kinship="m"), (4, 0, 0))


class Refusals(unittest.TestCase):
    UNLIKE = [
        ("123 456", "12 34 56"), ("12 34 56", "123 456"), ("1234", "12 34"), ("12 34", "1 2 3 4"),
        ("12", "1 2"), ("1", "11"), ("1", "1 1"), ("111 111 111", "11 11"), ("123", "123 123"), ("1 2", "1 2 3"),
    ]

    def refused(self, one, other, kinship, error):
        with self.subTest(one=one, other=other, kinship=kinship):
            with self.assertRaises(error):
                alike(board(one), board(other), kinship)

    def test_unlike_sizes(self):
        for one, other in self.UNLIKE:
            for kinship in KINSHIPS:
                self.refused(one, other, kinship, UnlikeSizes)

    def test_unlike_sizes_come_ahead_of_no_kinship(self):
        for one, other in self.UNLIKE:
            for text in NO_KINSHIPS:
                self.refused(one, other, text, UnlikeSizes)

    def test_texts_that_are_no_kinship(self):
        for text in NO_KINSHIPS:
            self.refused("12 34", "21 43", text, NoKinship)
            self.refused("12 34", "12 34", text, NoKinship)

    def test_no_kinship_comes_ahead_of_not_square(self):
        for text in NO_KINSHIPS:
            self.refused("123 456", "123 456", text, NoKinship)

    def test_kinships_with_q_are_for_square_boards(self):
        for kinship in KINSHIPS:
            if "q" in kinship:
                self.refused("123 456", "123 456", kinship, NotSquare)
                self.refused("123 456", "654 321", kinship, NotSquare)
                self.refused("12", "21", kinship, NotSquare)
                self.refused("1 2", "1 2", kinship, NotSquare)


if __name__ == "__main__":
    unittest.main()
