"""Points 6 and 7: a board's family, its least board, and the deeds that leave it."""

import unittest

from boardkin.errors import NoKinship, NotSquare
from boardkin.families import kin, least, leaving
from helper import (
    KINSHIPS, NO_KINSHIPS, asked_deeds, asked_family, board, every_board, fitting_kinships, good_time, led,
    lopsided_board, numbered_board, plain_board,
)

FEW_CELLS = [(1, 1), (2, 1), (1, 2), (3, 1), (1, 3), (4, 1), (1, 4), (2, 2)]
MORE_CELLS = [(3, 2), (2, 3), (4, 2), (2, 4), (8, 1), (1, 8), (3, 3)]


def some_boards(width, height):
    """All boards of three colours where they are few, else some of two colours and one of unlike cells."""
    if width * height <= 4:
        return every_board(3, width, height)
    return every_board(2, width, height)[::23] + [numbered_board(width, height)]


def small_cases():
    """Boards of small sizes, each with every kinship that is for it."""
    for width, height in FEW_CELLS + MORE_CELLS:
        for each in some_boards(width, height):
            for kinship in fitting_kinships(width, height):
                yield each, kinship


class Kin(unittest.TestCase):
    def holds(self, handed, kinship, asked):
        with self.subTest(handed=handed, kinship=kinship):
            self.assertEqual(kin(board(handed), kinship), [board(each) for each in asked])

    def test_by_hand(self):
        self.holds("12 34", "", ["12 34"])
        self.holds("12 34", "h", ["12 34", "43 21"])
        self.holds("12 34", "q", ["12 34", "24 13", "31 42", "43 21"])
        self.holds("12 34", "m", ["12 34", "21 43"])
        self.holds("12 34", "hm", ["12 34", "21 43", "34 12", "43 21"])
        self.holds("12 34", "s", ["12 34", "21 43", "34 12", "43 21"])
        self.holds("31 42", "q", ["12 34", "24 13", "31 42", "43 21"])
        self.holds("123 456", "h", ["123 456", "654 321"])
        self.holds("110 000", "s", ["000 011", "000 101", "000 110", "011 000", "101 000", "110 000"])

    def test_each_board_once(self):
        self.holds("11 11", "hqms", ["11 11"])
        self.holds("12 21", "hqms", ["12 21", "21 12"])
        self.holds("121", "hm", ["121"])
        self.holds("10 00", "hqms", ["00 01", "00 10", "01 00", "10 00"])

    def test_one_row_one_place_one_cell(self):
        self.holds("123", "s", ["123", "231", "312"])
        self.holds("123", "hms", ["123", "132", "213", "231", "312", "321"])
        self.holds("1 2 3", "m", ["1 2 3"])
        self.holds("1 2 3", "h", ["1 2 3", "3 2 1"])
        self.holds("7", "hqms", ["7"])
        self.holds("0", "", ["0"])

    def test_against_all_deeds_done_one_by_one(self):
        for each, kinship in small_cases():
            self.assertEqual(kin(each, kinship), asked_family(each, kinship), (each, kinship))

    def test_told_is_a_list_of_boards(self):
        told = kin(board("12 34"), "qm")
        self.assertIs(type(told), list)
        for each in told:
            self.assertEqual([type(each), type(each[0]), type(each[1])], [tuple, tuple, tuple])
            self.assertEqual([type(colour) for row in each for colour in row], [int] * 4)

    def test_boards_somewhat_beyond_the_bounds_are_not_refused(self):
        for width, height in [(9, 10), (10, 1), (1, 9)]:
            handed = numbered_board(width, height)
            self.assertEqual(kin(handed, "hm"), asked_family(handed, "hm"))
        self.assertEqual(kin(((12, -1),), "m"), [((-1, 12),), ((12, -1),)])

    def test_arguments_by_their_names(self):
        self.assertEqual(kin(board=board("12"), kinship="m"), [board("12"), board("21")])


class Least(unittest.TestCase):
    def test_by_hand(self):
        self.assertEqual(least(board("43 21"), ""), board("43 21"))
        self.assertEqual(least(board("43 21"), "h"), board("12 34"))
        self.assertEqual(least(board("10 00"), "s"), board("00 01"))
        self.assertEqual(least(board("312"), "s"), board("123"))
        self.assertEqual(least(board("321"), "s"), board("132"))
        self.assertEqual(least(board("3 2 1"), "h"), board("1 2 3"))
        self.assertEqual(least(board("9"), "hqms"), board("9"))

    def test_against_all_deeds_done_one_by_one(self):
        for each, kinship in small_cases():
            told = least(each, kinship)
            self.assertEqual(told, asked_family(each, kinship)[0], (each, kinship))
            self.assertEqual([type(told), type(told[0])], [tuple, tuple])

    def test_boards_somewhat_beyond_the_bounds_are_not_refused(self):
        self.assertEqual(least(((10, 11, 9),), "s"), ((9, 10, 11),))
        self.assertEqual(least(numbered_board(9, 9), "hqms"), asked_family(numbered_board(9, 9), "hqms")[0])

    def test_arguments_by_their_names(self):
        self.assertEqual(least(board=board("21"), kinship="m"), board("12"))


class Leaving(unittest.TestCase):
    def holds(self, handed, kinship, asked):
        with self.subTest(handed=handed, kinship=kinship):
            self.assertEqual(leaving(board(handed), kinship), asked)

    def test_by_hand(self):
        self.holds("12 34", "hqm", [(0, 0, 0)])
        self.holds("123 456", "hm", [(0, 0, 0)])
        self.holds("12 21", "", [(0, 0, 0)])
        self.holds("12 21", "h", [(0, 0, 0), (2, 0, 0)])
        self.holds("12 21", "q", [(0, 0, 0), (2, 0, 0)])
        self.holds("12 21", "qm", [(0, 0, 0), (2, 0, 0), (5, 0, 0), (7, 0, 0)])
        self.holds("12 21", "s", [(0, 0, 0), (0, 1, 1)])
        self.holds("121 000", "hm", [(0, 0, 0), (4, 0, 0)])
        self.holds("110", "ms", [(0, 0, 0), (4, 2, 0)])

    def test_deeds_that_lead_all_cells_alike_are_all_told(self):
        self.holds("12 34", "hqms", [(0, 0, 0), (2, 1, 1), (4, 1, 0), (6, 0, 1)])
        self.holds("5", "hqms", [(turning, 0, 0) for turning in range(8)])
        self.holds("123 456", "hms", [(0, 0, 0), (6, 0, 1)])
        self.holds("12", "hms", [(0, 0, 0), (2, 1, 0), (4, 1, 0), (6, 0, 0)])
        self.holds("1 2", "hms", [(0, 0, 0), (2, 0, 1), (4, 0, 0), (6, 0, 1)])
        self.holds("1 2 3", "m", [(0, 0, 0), (4, 0, 0)])

    def test_against_all_deeds_done_one_by_one(self):
        for each, kinship in small_cases():
            all_deeds = asked_deeds(kinship, len(each[0]), len(each))
            asked = [deed for deed in all_deeds if led(each, deed) == each]
            told = leaving(each, kinship)
            self.assertEqual(told, asked, (each, kinship))
            self.assertEqual(told, sorted(told))

    def test_told_is_a_list_of_deeds(self):
        told = leaving(board("11 11"), "qs")
        self.assertIs(type(told), list)
        for deed in told:
            self.assertIs(type(deed), tuple)
            self.assertEqual([type(number) for number in deed], [int] * 3)

    def test_boards_somewhat_beyond_the_bounds_are_not_refused(self):
        self.assertEqual(leaving(plain_board(9, 10, 12), "hms"), asked_deeds("hms", 9, 10))

    def test_arguments_by_their_names(self):
        self.assertEqual(leaving(board=board("11"), kinship="m"), [(0, 0, 0), (4, 0, 0)])


class WholeFamilies(unittest.TestCase):
    def test_boards_times_leaving_deeds_are_all_deeds(self):
        for each, kinship in small_cases():
            all_deeds = asked_deeds(kinship, len(each[0]), len(each))
            family = kin(each, kinship)
            for relative in family[::5]:
                product = len(family) * len(leaving(relative, kinship))
                self.assertEqual(product, len(all_deeds), (each, relative, kinship))

    def test_every_board_of_a_family_has_the_same_family_and_least_board(self):
        for width, height in FEW_CELLS + MORE_CELLS:
            for each in some_boards(width, height)[1::6]:
                for kinship in fitting_kinships(width, height):
                    family = kin(each, kinship)
                    self.assertIn(each, family)
                    for relative in family:
                        self.assertEqual(kin(relative, kinship), family, (relative, kinship))
                        self.assertEqual(least(relative, kinship), family[0], (relative, kinship))


class LargeBoards(unittest.TestCase):
    def test_eight_by_eight_with_all_letters(self):
        handed = lopsided_board(8, 8)
        with good_time():
            family = kin(handed, "hqms")
            self.assertEqual(least(handed, "hqms"), family[0])
            self.assertEqual(leaving(handed, "hqms"), [(0, 0, 0)])
        self.assertEqual(len(family), 512)
        self.assertEqual(family, asked_family(handed, "hqms"))

    def test_eight_by_eight_of_one_colour(self):
        handed = plain_board(8, 8, 9)
        with good_time():
            self.assertEqual(kin(handed, "hqms"), [handed])
            self.assertEqual(least(handed, "hqms"), handed)
            self.assertEqual(leaving(handed, "hqms"), asked_deeds("hqms", 8, 8))

    def test_eight_by_seven(self):
        handed = lopsided_board(8, 7)
        self.assertEqual(kin(handed, "hms"), asked_family(handed, "hms"))
        self.assertEqual(len(kin(handed, "hms")), 4 * 56)


class Refusals(unittest.TestCase):
    def each_refuses(self, handed, kinship, error):
        for function in (kin, least, leaving):
            with self.subTest(function=function.__name__, handed=handed, kinship=kinship):
                with self.assertRaises(error):
                    function(handed, kinship)

    def test_texts_that_are_no_kinship(self):
        for text in NO_KINSHIPS:
            self.each_refuses(board("12 34"), text, NoKinship)

    def test_no_kinship_comes_ahead_of_not_square(self):
        for text in NO_KINSHIPS:
            self.each_refuses(board("123 456"), text, NoKinship)
            self.each_refuses(board("1 2"), text, NoKinship)

    def test_kinships_with_q_are_for_square_boards(self):
        for kinship in KINSHIPS:
            if "q" in kinship:
                for text in ("123 456", "12 34 56", "12", "1 2", "1111", "00000000"):
                    self.each_refuses(board(text), kinship, NotSquare)


if __name__ == "__main__":
    unittest.main()
