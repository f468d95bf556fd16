"""Point 10: the number of families whose boards have so many cells of each colour."""

import functools
import math
import unittest

from boardkin.counting import how_many, how_many_with
from boardkin.errors import BadNumbers, NoKinship, NotSquare
from helper import (
    KINSHIPS, NO_KINSHIPS, SIZES, asked_deeds, asked_families, asked_rounds, every_board, fitting_kinships, good_time,
)

# Colours, width and height.
SMALL = [
    (1, 1, 1), (2, 1, 1), (3, 1, 1), (1, 3, 2), (2, 2, 1), (3, 1, 2), (3, 3, 1), (2, 1, 5), (3, 4, 1), (2, 2, 2),
    (3, 2, 2), (4, 2, 2), (2, 3, 2), (3, 3, 2), (3, 2, 3), (2, 4, 2), (2, 8, 1), (2, 3, 3),
]


def all_numbers(cells, colours):
    """All lists of so many numbers that come to the cells."""
    if colours == 1:
        return [[cells]]
    return [[first] + rest for first in range(cells + 1) for rest in all_numbers(cells - first, colours - 1)]


def numbers_of(a_board, colours):
    cells = sum(a_board, ())
    return [cells.count(colour) for colour in range(colours)]


def unlike_arrangements(numbers):
    """In how many ways the cells of one board can be coloured so."""
    ways = math.factorial(sum(numbers))
    for number in numbers:
        ways //= math.factorial(number)
    return ways


@functools.lru_cache(maxsize=None)
def ways_round_by_round(lengths, numbers):
    """In how many ways the rounds can be coloured so: each colour is tried for the first, then for the others."""
    if not lengths:
        return 1
    ways = 0
    for colour, number in enumerate(numbers):
        if number >= lengths[0]:
            rest = numbers[:colour] + (number - lengths[0],) + numbers[colour + 1:]
            ways += ways_round_by_round(lengths[1:], rest)
    return ways


def asked_number(numbers, kinship, width, height):
    all_deeds = asked_deeds(kinship, width, height)
    boards = 0
    for deed in all_deeds:
        boards += ways_round_by_round(tuple(asked_rounds(deed, width, height)[::-1]), tuple(numbers))
    number, rest = divmod(boards, len(all_deeds))
    assert rest == 0
    return number


class HowManyWith(unittest.TestCase):
    def holds(self, numbers, kinship, width, height, asked):
        with self.subTest(numbers=numbers, kinship=kinship, width=width, height=height):
            self.assertEqual(how_many_with(numbers, kinship, width, height), asked)

    def test_by_hand(self):
        self.holds([1, 1], "", 2, 1, 2)
        self.holds([1, 1], "h", 2, 1, 1)
        self.holds([2, 2], "s", 2, 2, 3)
        self.holds([2, 2], "qs", 2, 2, 2)
        self.holds([3, 1], "q", 2, 2, 1)
        self.holds([1, 1, 1], "s", 3, 1, 2)
        self.holds([1, 1, 1], "ms", 3, 1, 1)
        self.holds([8, 1], "q", 3, 3, 3)
        self.holds([8, 1], "s", 3, 3, 1)
        self.holds([1, 1, 1, 1], "q", 2, 2, 6)
        self.holds([1, 1, 1, 1], "qm", 2, 2, 3)

    def test_one_colour(self):
        for width, height in SIZES:
            for kinship in fitting_kinships(width, height):
                self.holds([width * height], kinship, width, height, 1)

    def test_colours_with_no_cells(self):
        self.holds([0, 4], "s", 2, 2, 1)
        self.holds([4, 0, 0], "s", 2, 2, 1)
        self.holds([2, 0, 2], "s", 2, 2, 3)
        self.holds([0, 0, 0, 0, 0, 0, 0, 0, 0, 1], "hqms", 1, 1, 1)
        self.holds([0, 2, 0, 2, 0], "qs", 2, 2, 2)

    def test_against_all_boards_gone_through_one_by_one(self):
        for colours, width, height in SMALL:
            boards = every_board(colours, width, height)
            for kinship in fitting_kinships(width, height):
                asked = [numbers_of(each, colours) for each in asked_families(boards, kinship)]
                for numbers in all_numbers(width * height, colours):
                    told = how_many_with(numbers, kinship, width, height)
                    self.assertEqual(told, asked.count(numbers), (numbers, kinship, width, height))

    def test_all_numbers_of_a_size_together_come_to_how_many(self):
        for colours, width, height in [(1, 5, 3), (2, 4, 4), (3, 3, 3), (3, 5, 2), (2, 8, 8), (4, 2, 3), (10, 2, 1)]:
            for kinship in fitting_kinships(width, height):
                together = 0
                for numbers in all_numbers(width * height, colours):
                    together += how_many_with(numbers, kinship, width, height)
                self.assertEqual(together, how_many(colours, kinship, width, height), (colours, kinship, width, height))

    def test_the_order_of_the_colours_does_not_matter(self):
        for kinship in KINSHIPS:
            asked = how_many_with([1, 2, 3, 4, 6], kinship, 4, 4)
            self.holds([6, 4, 3, 2, 1], kinship, 4, 4, asked)
            self.holds([3, 0, 6, 1, 2, 0, 4], kinship, 4, 4, asked)

    def test_larger_boards_round_by_round(self):
        cases = [
            ([8, 8], 4, 4), ([4, 4, 4, 4], 4, 4), ([2, 2, 2, 2, 2, 2, 1, 1, 1, 1], 4, 4), ([5, 10, 10], 5, 5),
            ([12, 12, 12], 6, 6), ([16, 20], 6, 6), ([32, 32], 8, 8), ([31, 33], 8, 8), ([28, 28], 7, 8),
        ]
        for numbers, width, height in cases:
            for kinship in fitting_kinships(width, height)[::-5]:
                self.holds(numbers, kinship, width, height, asked_number(numbers, kinship, width, height))

    def test_told_is_a_whole_number(self):
        self.assertIs(type(how_many_with([4, 5], "hqms", 3, 3)), int)

    def test_the_numbers_handed_in_stay_as_they_were(self):
        numbers = [4, 3, 0, 2]
        how_many_with(numbers, "hqms", 3, 3)
        self.assertEqual(numbers, [4, 3, 0, 2])
        wrong = [4, -3, 9]
        with self.assertRaises(BadNumbers):
            how_many_with(wrong, "hqms", 3, 3)
        self.assertEqual(wrong, [4, -3, 9])

    def test_the_numbers_handed_in_may_be_changed_later(self):
        numbers = [2, 2]
        self.assertEqual(how_many_with(numbers, "s", 2, 2), 3)
        numbers[0] = 3
        numbers[1] = 1
        self.assertEqual(how_many_with(numbers, "s", 2, 2), 1)
        self.assertEqual(how_many_with([2, 2], "s", 2, 2), 3)

    def test_numbers_and_sizes_somewhat_beyond_the_bounds_are_not_refused(self):
        self.holds([1] * 12, "", 4, 3, math.factorial(12))
        self.holds([1] * 12, "hs", 4, 3, math.factorial(12) // 24)
        self.holds([88, 2], "s", 9, 10, 45)

    def test_arguments_by_their_names(self):
        self.assertEqual(how_many_with(numbers=[1, 1], kinship="m", width=2, height=1), 1)


class LargeBoards(unittest.TestCase):
    def in_good_time(self, numbers, kinship, width, height):
        with good_time():
            return how_many_with(numbers, kinship, width, height)

    def test_ten_colours_without_kin(self):
        numbers = [7, 7, 7, 7, 6, 6, 6, 6, 6, 6]
        self.assertEqual(self.in_good_time(numbers, "", 8, 8), unlike_arrangements(numbers))

    def test_ten_colours_where_slides_leave_no_board(self):
        numbers = [7, 7, 7, 7, 6, 6, 6, 6, 6, 6]
        self.assertEqual(self.in_good_time(numbers, "s", 8, 8), unlike_arrangements(numbers) // 64)

    def test_eight_colours_with_eight_cells_each(self):
        # Of the 64 slides, one has rounds of 1 cell, 3 of 2 cells, 12 of 4 and 48 of 8.
        boards = sum(
            slides * unlike_arrangements([8 // length] * 8)
            for slides, length in [(1, 1), (3, 2), (12, 4), (48, 8)]
        )
        self.assertEqual(self.in_good_time([8] * 8, "s", 8, 8), boards // 64)

    def test_ten_colours_with_all_letters(self):
        # Nine cells that are each alone in their colour lie all in rounds of one cell: but for (0, 0, 0),
        # only the eight deeds (4, a, 0) and (6, 0, b) with a or b odd have as many, 16 each.
        numbers = [1, 1, 1, 1, 1, 1, 1, 1, 1, 55]
        boards = math.perm(64, 9) + 8 * math.perm(16, 9)
        self.assertEqual(self.in_good_time(numbers, "hqms", 8, 8), boards // 512)

    def test_ten_colours_of_many_cells_with_all_letters(self):
        numbers = [7, 7, 7, 7, 6, 6, 6, 6, 6, 6]
        told = self.in_good_time(numbers, "hqms", 8, 8)
        self.assertGreaterEqual(told * 512, unlike_arrangements(numbers))
        self.assertEqual(self.in_good_time(numbers[::-1], "hqms", 8, 8), told)
        self.assertEqual(self.in_good_time(numbers, "qms", 8, 8), told)

    def test_every_kinship_of_some_sizes(self):
        for width, height in [(8, 8), (8, 7), (7, 7), (6, 8)]:
            numbers = [width * height - 40, 9, 7, 6, 5, 4, 3, 3, 2, 1]
            for kinship in fitting_kinships(width, height):
                self.assertGreater(self.in_good_time(numbers, kinship, width, height), 0)


class Refusals(unittest.TestCase):
    def refused(self, numbers, kinship, width, height, error):
        with self.subTest(numbers=numbers, kinship=kinship, width=width, height=height):
            with self.assertRaises(error):
                how_many_with(numbers, kinship, width, height)

    def test_a_number_below_0(self):
        for numbers in ([-1], [-1, 10], [10, -1], [5, -1, 5], [4, 5, -1], [10, 0, -1], [-9], [-1] * 9, [-100, 109]):
            self.refused(numbers, "hqms", 3, 3, BadNumbers)
            self.refused(numbers, "", 3, 3, BadNumbers)

    def test_numbers_that_come_to_more_or_less(self):
        for numbers in ([8], [10], [4, 4], [5, 5], [3, 3, 2], [3, 3, 4], [0], [0, 0], [1] * 8, [1] * 10, [18], [90]):
            self.refused(numbers, "hqms", 3, 3, BadNumbers)
            self.refused(numbers, "", 3, 3, BadNumbers)

    def test_one_more_and_one_less_for_all_sizes(self):
        for width, height in SIZES:
            for kinship in fitting_kinships(width, height):
                self.refused([width * height + 1], kinship, width, height, BadNumbers)
                self.refused([width * height - 1], kinship, width, height, BadNumbers)

    def test_no_numbers(self):
        self.refused([], "hqms", 3, 3, BadNumbers)
        self.refused([], "", 1, 1, BadNumbers)

    def test_texts_that_are_no_kinship(self):
        for text in NO_KINSHIPS:
            self.refused([4, 5], text, 3, 3, NoKinship)

    def test_no_kinship_comes_ahead_of_the_others(self):
        for text in NO_KINSHIPS:
            self.refused([3, 3], text, 3, 2, NoKinship)
            self.refused([3, 3], text, 3, 3, NoKinship)
            self.refused([10, -1], text, 3, 3, NoKinship)
            self.refused([-1], text, 3, 2, NoKinship)

    def test_not_square_comes_ahead_of_bad_numbers(self):
        for kinship in KINSHIPS:
            if "q" in kinship:
                self.refused([3, 3], kinship, 3, 2, NotSquare)
                self.refused([3, 4], kinship, 3, 2, NotSquare)
                self.refused([7, -1], kinship, 2, 3, NotSquare)
                self.refused([], kinship, 1, 2, NotSquare)


if __name__ == "__main__":
    unittest.main()
