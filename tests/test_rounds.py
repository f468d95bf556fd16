"""Points 8 and 9: the rounds of a deed, and how many boards a deed leaves."""

import unittest

from boardkin.counting import left, rounds
from helper import SIZES, asked_rounds, every_board, every_deed, good_time, led

# Colours, width and height.
FEW_BOARDS = [(10, 1, 1), (3, 2, 1), (3, 1, 2), (2, 4, 1), (2, 1, 4), (3, 2, 2), (2, 3, 2), (2, 2, 3), (2, 3, 3)]


class Rounds(unittest.TestCase):
    def test_by_hand(self):
        self.assertEqual(rounds((0, 0, 0), 3, 2), [1, 1, 1, 1, 1, 1])
        self.assertEqual(rounds((0, 1, 0), 3, 2), [3, 3])
        self.assertEqual(rounds((0, 0, 1), 3, 2), [2, 2, 2])
        self.assertEqual(rounds((0, 1, 1), 3, 2), [6])
        self.assertEqual(rounds((0, 2, 0), 4, 1), [2, 2])
        self.assertEqual(rounds((1, 0, 0), 3, 3), [1, 4, 4])
        self.assertEqual(rounds((1, 0, 0), 2, 2), [4])
        self.assertEqual(rounds((1, 1, 0), 2, 2), [1, 1, 2])
        self.assertEqual(rounds((2, 0, 0), 3, 3), [1, 2, 2, 2, 2])
        self.assertEqual(rounds((2, 0, 0), 3, 2), [2, 2, 2])
        self.assertEqual(rounds((4, 0, 0), 3, 2), [1, 1, 2, 2])
        self.assertEqual(rounds((6, 0, 0), 3, 2), [2, 2, 2])
        self.assertEqual(rounds((7, 0, 0), 3, 3), [1, 1, 1, 2, 2, 2])

    def test_one_row_one_place_one_cell(self):
        self.assertEqual(rounds((4, 0, 0), 3, 1), [1, 2])
        self.assertEqual(rounds((4, 0, 0), 1, 3), [1, 1, 1])
        self.assertEqual(rounds((0, 0, 2), 1, 8), [4, 4])
        for turning in range(8):
            self.assertEqual(rounds((turning, 0, 0), 1, 1), [1])

    def test_against_a_board_of_all_unlike_cells(self):
        for width, height in [size for size in SIZES if size[0] * size[1] <= 16] + [(5, 4), (6, 5), (5, 5), (6, 6)]:
            for deed in every_deed(width, height):
                told = rounds(deed, width, height)
                self.assertEqual(told, asked_rounds(deed, width, height), (deed, width, height))

    def test_some_deeds_of_large_sizes(self):
        for width, height in [(8, 8), (7, 7), (8, 7), (7, 8), (8, 6)]:
            for deed in every_deed(width, height)[::11]:
                told = rounds(deed, width, height)
                self.assertEqual(told, asked_rounds(deed, width, height), (deed, width, height))

    def test_they_are_sorted_and_come_to_all_cells(self):
        for width, height in SIZES:
            for deed in every_deed(width, height):
                told = rounds(deed, width, height)
                self.assertEqual(sum(told), width * height, (deed, width, height))
                self.assertEqual(told, sorted(told))

    def test_told_is_a_list_of_whole_numbers(self):
        told = rounds((1, 0, 0), 3, 3)
        self.assertIs(type(told), list)
        self.assertEqual([type(length) for length in told], [int] * 3)

    def test_sizes_somewhat_beyond_the_bounds_are_not_refused(self):
        for deed in [(0, 3, 0), (2, 8, 9), (4, 1, 1)]:
            self.assertEqual(rounds(deed, 9, 10), asked_rounds(deed, 9, 10))

    def test_arguments_by_their_names(self):
        self.assertEqual(rounds(deed=(0, 1, 0), width=2, height=1), [2])


class Left(unittest.TestCase):
    def test_by_hand(self):
        self.assertEqual(left(2, (0, 0, 0), 3, 2), 64)
        self.assertEqual(left(2, (1, 0, 0), 3, 3), 8)
        self.assertEqual(left(3, (2, 0, 0), 3, 2), 27)
        self.assertEqual(left(5, (4, 0, 0), 3, 1), 25)
        self.assertEqual(left(7, (5, 0, 0), 1, 1), 7)

    def test_against_all_boards_gone_through_one_by_one(self):
        for colours, width, height in FEW_BOARDS:
            boards = every_board(colours, width, height)
            for deed in every_deed(width, height):
                asked = len([each for each in boards if led(each, deed) == each])
                self.assertEqual(left(colours, deed, width, height), asked, (colours, deed, width, height))

    def test_with_one_colour(self):
        for width, height in SIZES:
            for deed in every_deed(width, height)[::7]:
                self.assertEqual(left(1, deed, width, height), 1)

    def test_with_ten_colours(self):
        self.assertEqual(left(10, (0, 0, 0), 8, 8), 10 ** 64)
        self.assertEqual(left(10, (2, 0, 0), 8, 8), 10 ** 32)
        self.assertEqual(left(10, (0, 1, 0), 8, 8), 10 ** 8)
        self.assertEqual(left(10, (7, 0, 0), 8, 8), 10 ** 36)
        self.assertEqual(left(10, (1, 0, 0), 7, 7), 10 ** 13)
        with good_time():
            for deed in every_deed(8, 8):
                self.assertEqual(left(10, deed, 8, 8), 10 ** len(rounds(deed, 8, 8)))

    def test_told_is_a_whole_number(self):
        self.assertIs(type(left(2, (1, 0, 0), 3, 3)), int)

    def test_colours_and_sizes_somewhat_beyond_the_bounds_are_not_refused(self):
        self.assertEqual(left(12, (0, 0, 0), 3, 1), 1728)
        self.assertEqual(left(2, (0, 0, 0), 9, 10), 2 ** 90)

    def test_arguments_by_their_names(self):
        self.assertEqual(left(colours=3, deed=(0, 1, 0), width=2, height=2), 9)


if __name__ == "__main__":
    unittest.main()
