"""Point 5: two deeds one behind the other, and the deed that undoes one."""

import unittest

from boardkin.deeds import behind, done, undoing
from helper import KINSHIPS, all_done, board, every_deed, program_deeds, unlike_boards

SMALL = [(1, 1), (2, 1), (1, 2), (3, 1), (1, 3), (2, 2), (3, 2), (2, 3), (2, 4), (4, 1), (3, 3)]
FEW_DEEDS = [(1, 1), (2, 1), (1, 2), (3, 1), (1, 4), (2, 2), (3, 2)]
LEAST = (0, 0, 0)

# BOTH[one][other]: the turning that comes of one and then other.
BOTH = [
    [0, 1, 2, 3, 4, 5, 6, 7],
    [1, 2, 3, 0, 7, 4, 5, 6],
    [2, 3, 0, 1, 6, 7, 4, 5],
    [3, 0, 1, 2, 5, 6, 7, 4],
    [4, 5, 6, 7, 0, 1, 2, 3],
    [5, 6, 7, 4, 3, 0, 1, 2],
    [6, 7, 4, 5, 2, 3, 0, 1],
    [7, 4, 5, 6, 1, 2, 3, 0],
]
UNDOING = [0, 3, 2, 1, 4, 5, 6, 7]


def some_large_deeds(length):
    """Deeds of every turning, with few slides, of a large square board."""
    slides = [(0, 0), (1, 0), (0, 1), (length - 1, 2), (3, length - 2)]
    return [(turning, a, b) for turning in range(8) for a, b in slides]


class Tables(unittest.TestCase):
    """The tables above hold on a board that tells all turnings apart."""

    def test_both(self):
        nine = board("123 456 789")
        for one in range(8):
            for other in range(8):
                both = done(done(nine, (one, 0, 0)), (other, 0, 0))
                self.assertEqual(done(nine, (BOTH[one][other], 0, 0)), both)

    def test_undoing(self):
        for turning in range(8):
            self.assertEqual(BOTH[turning][UNDOING[turning]], 0)


class Behind(unittest.TestCase):
    def check_pair(self, one, other, width, height, boards):
        told = behind(one, other, width, height)
        where = (one, other, width, height)
        self.assertEqual(all_done(boards, told), all_done(all_done(boards, one), other), where)
        self.assertEqual(told[0], BOTH[one[0]][other[0]], where)
        self.assertTrue(0 <= told[1] < width, where)
        self.assertTrue(0 <= told[2] < height, where)

    def test_by_hand(self):
        self.assertEqual(behind((0, 1, 0), (0, 1, 2), 3, 3), (0, 2, 2))
        self.assertEqual(behind((0, 2, 1), (0, 1, 2), 3, 3), (0, 0, 0))
        self.assertEqual(behind((0, 1, 0), (1, 0, 0), 3, 3), (1, 0, 1))
        self.assertEqual(behind((1, 0, 0), (0, 1, 0), 3, 3), (1, 1, 0))
        self.assertEqual(behind((0, 1, 0), (4, 0, 0), 3, 2), (4, 2, 0))
        self.assertEqual(behind((0, 0, 1), (6, 0, 0), 2, 3), (6, 0, 2))
        self.assertEqual(behind((1, 0, 0), (4, 0, 0), 2, 2), (7, 0, 0))
        self.assertEqual(behind((4, 0, 0), (1, 0, 0), 2, 2), (5, 0, 0))

    def test_all_pairs_of_small_sizes(self):
        for width, height in SMALL:
            boards = unlike_boards(width, height)
            all_deeds = every_deed(width, height)
            for one in all_deeds:
                for other in all_deeds:
                    self.check_pair(one, other, width, height, boards)

    def test_some_pairs_of_large_sizes(self):
        for length in (5, 8):
            boards = unlike_boards(length, length)
            some_deeds = some_large_deeds(length)
            for one in some_deeds:
                for other in some_deeds:
                    self.check_pair(one, other, length, length, boards)

    def test_some_pairs_of_large_sizes_that_are_not_square(self):
        for width, height in [(8, 5), (5, 8), (8, 1), (1, 8)]:
            boards = unlike_boards(width, height)
            for one in every_deed(width, height)[::5]:
                for other in every_deed(width, height)[::7]:
                    self.check_pair(one, other, width, height, boards)

    def test_turnings_stay_apart_where_cells_do_not_tell_them_apart(self):
        for one in range(8):
            for other in range(8):
                self.assertEqual(behind((one, 0, 0), (other, 0, 0), 1, 1), (BOTH[one][other], 0, 0))
        self.assertEqual(behind((2, 0, 0), (4, 0, 0), 2, 1), (6, 0, 0))
        self.assertEqual(behind((2, 1, 0), (6, 1, 0), 2, 1), (4, 0, 0))
        self.assertEqual(behind((6, 0, 0), (0, 1, 0), 2, 1), (6, 1, 0))
        self.assertEqual(behind((4, 0, 1), (4, 0, 1), 1, 2), (0, 0, 0))
        self.assertEqual(behind((2, 1, 1), (0, 1, 0), 2, 2), (2, 0, 1))

    def test_of_three_it_is_the_same_which_two_come_first(self):
        for width, height in FEW_DEEDS:
            all_deeds = every_deed(width, height)
            for one in all_deeds:
                for other in all_deeds:
                    first_two = behind(one, other, width, height)
                    for third in all_deeds:
                        last_two = behind(other, third, width, height)
                        self.assertEqual(
                            behind(first_two, third, width, height),
                            behind(one, last_two, width, height),
                            (one, other, third, width, height),
                        )

    def test_the_deed_that_does_nothing(self):
        for width, height in SMALL:
            for deed in every_deed(width, height):
                self.assertEqual(behind(deed, LEAST, width, height), deed)
                self.assertEqual(behind(LEAST, deed, width, height), deed)

    def test_told_is_a_deed_of_the_same_kinship(self):
        for kinship in KINSHIPS:
            for width, height in [(1, 1), (2, 1), (1, 2), (2, 2), (3, 2)]:
                all_deeds = program_deeds(kinship, width, height)
                for one in all_deeds:
                    for other in all_deeds:
                        self.assertIn(behind(one, other, width, height), all_deeds)

    def test_told_is_a_tuple_of_whole_numbers(self):
        told = behind((5, 1, 2), (6, 2, 1), 3, 3)
        self.assertIs(type(told), tuple)
        self.assertEqual([type(number) for number in told], [int] * 3)

    def test_sizes_somewhat_beyond_the_bounds_are_not_refused(self):
        self.assertEqual(behind((0, 8, 9), (0, 2, 2), 9, 10), (0, 1, 1))
        self.assertEqual(behind((0, 1, 2), (1, 0, 0), 9, 9), (1, 7, 1))

    def test_arguments_by_their_names(self):
        self.assertEqual(behind(one=(0, 1, 0), other=(4, 0, 1), width=3, height=2), (4, 2, 1))


class Undoing(unittest.TestCase):
    def check_deed(self, deed, width, height, boards):
        told = undoing(deed, width, height)
        where = (deed, width, height)
        self.assertEqual(all_done(all_done(boards, deed), told), boards, where)
        self.assertEqual(all_done(all_done(boards, told), deed), boards, where)
        self.assertEqual(behind(deed, told, width, height), LEAST, where)
        self.assertEqual(behind(told, deed, width, height), LEAST, where)
        self.assertEqual(told[0], UNDOING[deed[0]], where)
        self.assertTrue(0 <= told[1] < width, where)
        self.assertTrue(0 <= told[2] < height, where)

    def test_by_hand(self):
        self.assertEqual(undoing((0, 0, 0), 3, 2), (0, 0, 0))
        self.assertEqual(undoing((0, 1, 1), 3, 2), (0, 2, 1))
        self.assertEqual(undoing((1, 0, 0), 3, 3), (3, 0, 0))
        self.assertEqual(undoing((1, 1, 0), 3, 3), (3, 0, 1))
        self.assertEqual(undoing((4, 1, 0), 3, 2), (4, 1, 0))
        self.assertEqual(undoing((4, 0, 1), 2, 3), (4, 0, 2))
        self.assertEqual(undoing((2, 1, 2), 4, 3), (2, 1, 2))
        self.assertEqual(undoing((7, 1, 0), 3, 3), (7, 0, 2))

    def test_all_deeds_of_small_and_large_sizes(self):
        for width, height in SMALL + [(4, 4), (5, 3), (8, 8), (8, 7), (1, 8)]:
            boards = unlike_boards(width, height)
            for deed in every_deed(width, height):
                self.check_deed(deed, width, height, boards)

    def test_undone_twice_it_is_the_deed(self):
        for width, height in SMALL:
            for deed in every_deed(width, height):
                self.assertEqual(undoing(undoing(deed, width, height), width, height), deed)

    def test_turnings_stay_apart_where_cells_do_not_tell_them_apart(self):
        for turning in range(8):
            self.assertEqual(undoing((turning, 0, 0), 1, 1), (UNDOING[turning], 0, 0))
        self.assertEqual(undoing((6, 1, 0), 2, 1), (6, 1, 0))
        self.assertEqual(undoing((2, 1, 0), 2, 1), (2, 1, 0))

    def test_told_is_a_deed_of_the_same_kinship(self):
        for kinship in KINSHIPS:
            for width, height in [(1, 1), (2, 1), (1, 2), (2, 2), (3, 2), (3, 3)]:
                all_deeds = program_deeds(kinship, width, height)
                for deed in all_deeds:
                    self.assertIn(undoing(deed, width, height), all_deeds)

    def test_told_is_a_tuple_of_whole_numbers(self):
        told = undoing((5, 1, 2), 3, 3)
        self.assertIs(type(told), tuple)
        self.assertEqual([type(number) for number in told], [int] * 3)

    def test_sizes_somewhat_beyond_the_bounds_are_not_refused(self):
        self.assertEqual(undoing((0, 8, 1), 9, 10), (0, 1, 9))
        self.assertEqual(undoing((1, 2, 0), 9, 9), (3, 0, 2))

    def test_arguments_by_their_names(self):
        self.assertEqual(undoing(deed=(0, 1, 0), width=3, height=2), (0, 2, 0))


if __name__ == "__main__":
    unittest.main()
