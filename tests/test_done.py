"""Points 2 and 3: the eight turnings, and what a deed does to a board."""

import unittest

from boardkin.deeds import done
from helper import SIZES, all_done, all_led, board, every_deed, plain_board, unlike_boards, with_cell

NINE = "123 456 789"


class Done(unittest.TestCase):
    def holds(self, handed, deed, asked):
        with self.subTest(handed=handed, deed=deed):
            self.assertEqual(done(board(handed), deed), board(asked))

    def test_eight_turnings_of_three_by_three(self):
        self.holds(NINE, (0, 0, 0), "123 456 789")
        self.holds(NINE, (1, 0, 0), "741 852 963")
        self.holds(NINE, (2, 0, 0), "987 654 321")
        self.holds(NINE, (3, 0, 0), "369 258 147")
        self.holds(NINE, (4, 0, 0), "321 654 987")
        self.holds(NINE, (5, 0, 0), "963 852 741")
        self.holds(NINE, (6, 0, 0), "789 456 123")
        self.holds(NINE, (7, 0, 0), "147 258 369")

    def test_eight_turnings_of_two_by_two(self):
        asked = ["12 34", "31 42", "43 21", "24 13", "21 43", "42 31", "34 12", "13 24"]
        for turning in range(8):
            self.holds("12 34", (turning, 0, 0), asked[turning])

    def test_even_turnings_of_boards_that_are_not_square(self):
        self.holds("123 456", (0, 0, 0), "123 456")
        self.holds("123 456", (2, 0, 0), "654 321")
        self.holds("123 456", (4, 0, 0), "321 654")
        self.holds("123 456", (6, 0, 0), "456 123")
        self.holds("12 34 56", (0, 0, 0), "12 34 56")
        self.holds("12 34 56", (2, 0, 0), "65 43 21")
        self.holds("12 34 56", (4, 0, 0), "21 43 65")
        self.holds("12 34 56", (6, 0, 0), "56 34 12")

    def test_one_row(self):
        self.holds("1234", (2, 0, 0), "4321")
        self.holds("1234", (4, 0, 0), "4321")
        self.holds("1234", (6, 0, 0), "1234")
        self.holds("1234", (0, 1, 0), "4123")
        self.holds("1234", (0, 3, 0), "2341")
        self.holds("1234", (2, 1, 0), "1432")

    def test_one_place(self):
        self.holds("1 2 3", (2, 0, 0), "3 2 1")
        self.holds("1 2 3", (4, 0, 0), "1 2 3")
        self.holds("1 2 3", (6, 0, 0), "3 2 1")
        self.holds("1 2 3", (0, 0, 1), "3 1 2")
        self.holds("1 2 3", (0, 0, 2), "2 3 1")
        self.holds("1 2 3", (6, 0, 1), "1 3 2")

    def test_one_cell(self):
        for turning in range(8):
            self.holds("7", (turning, 0, 0), "7")

    def test_moving_to_the_right_round_the_rim(self):
        self.holds(NINE, (0, 1, 0), "312 645 978")
        self.holds(NINE, (0, 2, 0), "231 564 897")
        self.holds("123 456", (0, 1, 0), "312 645")

    def test_moving_downwards_round_the_rim(self):
        self.holds(NINE, (0, 0, 1), "789 123 456")
        self.holds(NINE, (0, 0, 2), "456 789 123")
        self.holds("12 34 56", (0, 0, 1), "56 12 34")

    def test_moving_both_ways(self):
        self.holds(NINE, (0, 1, 2), "645 978 312")
        self.holds("123 456", (0, 2, 1), "564 231")

    def test_moving_behind_the_turning(self):
        self.holds(NINE, (1, 1, 0), "174 285 396")
        self.holds(NINE, (3, 2, 0), "693 582 471")
        self.holds(NINE, (5, 1, 1), "174 396 285")
        self.holds(NINE, (6, 2, 1), "231 897 564")
        self.holds(NINE, (7, 0, 2), "258 369 147")
        self.holds("123 456", (4, 1, 0), "132 465")
        self.holds("123 456", (2, 2, 1), "213 546")
        self.holds("12 34 56", (6, 0, 1), "12 56 34")

    def test_all_deeds_of_all_sizes_cell_by_cell(self):
        for width, height in SIZES:
            boards = unlike_boards(width, height)
            for deed in every_deed(width, height):
                self.assertEqual(all_done(boards, deed), all_led(boards, deed), (width, height, deed))

    def test_colours_that_stand_twice_go_along(self):
        self.holds("0090 0000", (0, 3, 1), "0000 0900")
        self.holds("001 000 000", (1, 0, 0), "000 000 001")
        self.holds("001 000 000", (3, 0, 0), "100 000 000")

    def test_told_is_a_tuple_of_tuples_of_whole_numbers(self):
        for deed in every_deed(3, 3):
            told = done(board(NINE), deed)
            self.assertIs(type(told), tuple)
            for row in told:
                self.assertIs(type(row), tuple)
                self.assertEqual([type(colour) for colour in row], [int] * 3)

    def test_the_board_handed_in_stays_as_it_was(self):
        handed = board(NINE)
        deed = (5, 1, 2)
        done(handed, deed)
        self.assertEqual(handed, ((1, 2, 3), (4, 5, 6), (7, 8, 9)))
        self.assertEqual(deed, (5, 1, 2))

    def test_asked_again_it_tells_the_same(self):
        first = done(board(NINE), (5, 1, 2))
        done(board("987 654 321"), (3, 2, 2))
        self.assertEqual(done(board(NINE), (5, 1, 2)), first)

    def test_boards_somewhat_beyond_the_bounds_are_not_refused(self):
        wide = with_cell(plain_board(9, 10), 0, 0, 1)
        self.assertEqual(done(wide, (2, 0, 0)), with_cell(plain_board(9, 10), 8, 9, 1))
        self.assertEqual(done(wide, (0, 8, 9)), with_cell(plain_board(9, 10), 8, 9, 1))
        self.assertEqual(done(((10, 11),), (4, 0, 0)), ((11, 10),))

    def test_arguments_by_their_names(self):
        self.assertEqual(done(board=board("12 34"), deed=(1, 0, 1)), board("42 31"))


if __name__ == "__main__":
    unittest.main()
