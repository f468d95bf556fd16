"""Point 1: what a board is, and what is refused with NoBoard."""

import unittest

from boardkin.boards import looked
from boardkin.errors import NoBoard
from helper import LENGTHS, SIZES, board, plain_board, with_cell


class RightBoards(unittest.TestCase):
    def test_width_comes_first_and_height_second(self):
        self.assertEqual(looked(board("123 456")), (3, 2))
        self.assertEqual(looked(board("12 34 56")), (2, 3))

    def test_one_row_one_place_one_cell(self):
        self.assertEqual(looked(board("01234567")), (8, 1))
        self.assertEqual(looked(board("0 1 2 3 4 5 6 7")), (1, 8))
        self.assertEqual(looked(board("9")), (1, 1))

    def test_all_sizes(self):
        for width, height in SIZES:
            with self.subTest(width=width, height=height):
                self.assertEqual(looked(plain_board(width, height)), (width, height))
                self.assertEqual(looked(plain_board(width, height, 9)), (width, height))

    def test_all_colours_at_all_cells(self):
        for width, height in [(1, 1), (4, 1), (1, 4), (3, 2), (8, 8)]:
            for x in range(width):
                for y in range(height):
                    for colour in range(10):
                        self.assertEqual(looked(with_cell(plain_board(width, height), x, y, colour)), (width, height))

    def test_told_is_a_tuple_of_whole_numbers(self):
        told = looked(board("12 34 56"))
        self.assertIs(type(told), tuple)
        self.assertEqual([type(length) for length in told], [int, int])

    def test_argument_by_its_name(self):
        self.assertEqual(looked(board=board("123 456")), (3, 2))

    def test_the_board_stays_as_it_was(self):
        handed = board("123 456")
        looked(handed)
        self.assertEqual(handed, ((1, 2, 3), (4, 5, 6)))


class NoBoards(unittest.TestCase):
    def refused(self, wrong):
        with self.subTest(board=wrong):
            with self.assertRaises(NoBoard):
                looked(wrong)

    def test_no_rows(self):
        self.refused(())

    def test_rows_without_places(self):
        for height in range(1, 10):
            self.refused(((),) * height)

    def test_nine_rows_and_more(self):
        for height in (9, 10, 16):
            for width in LENGTHS:
                self.refused(plain_board(width, height))

    def test_nine_places_and_more(self):
        for width in (9, 10, 16):
            for height in LENGTHS:
                self.refused(plain_board(width, height))

    def test_nine_rows_of_nine_places(self):
        self.refused(plain_board(9, 9))

    def test_one_row_longer_or_shorter(self):
        for width in LENGTHS:
            for height in range(2, 9):
                rows = plain_board(width, height)
                for y in range(height):
                    self.refused(rows[:y] + ((0,) * (width + 1),) + rows[y + 1:])
                    self.refused(rows[:y] + ((0,) * (width - 1),) + rows[y + 1:])

    def test_one_row_longer_and_one_shorter(self):
        self.refused(((1, 2), (3, 4, 5), (6,)))
        self.refused(((1,), (2, 3, 4), (5, 6)))
        self.refused(((1, 2, 3), (4, 5), (6,)))

    def test_colour_below_0_or_above_9_at_any_cell(self):
        for width, height in SIZES:
            for x in range(width):
                for y in range(height):
                    for colour in (-1, 10):
                        self.refused(with_cell(plain_board(width, height, 5), x, y, colour))

    def test_colours_far_off(self):
        for colour in (-1000, -10, -2, 11, 99, 10 ** 30):
            self.refused(((colour,),))
            self.refused(with_cell(board("123 456"), 1, 1, colour))


if __name__ == "__main__":
    unittest.main()
