"""Point 11: a board as a text, and a text as a board."""

import itertools
import re
import unittest

from boardkin.errors import BadNote
from boardkin.notes import read, shown
from helper import SIZES, board, every_board, plain_board, with_cell

WRITTEN = [
    ("0", "0\n"),
    ("9", "9\n"),
    ("12 34", "12\n34\n"),
    ("123 456", "123\n456\n"),
    ("12 34 56", "12\n34\n56\n"),
    ("01234567", "01234567\n"),
    ("000", "000\n"),
    ("9 8 7", "9\n8\n7\n"),
    ("0 1 2 3 4 5 6 7", "0\n1\n2\n3\n4\n5\n6\n7\n"),
    (
        "01234567 12345678 23456789 34567890 45678901 56789012 67890123 78901234",
        "01234567\n12345678\n23456789\n34567890\n45678901\n56789012\n67890123\n78901234\n",
    ),
]

# Every sign that a text may have, but the figures and the line end.
NO_FIGURES = "\t" + "".join(chr(code) for code in range(32, 127) if chr(code) not in "0123456789%")


class Shown(unittest.TestCase):
    def test_sign_by_sign(self):
        for rows, text in WRITTEN:
            with self.subTest(text=text):
                self.assertEqual(shown(board(rows)), text)

    def test_all_sizes(self):
        for width, height in SIZES:
            self.assertEqual(shown(plain_board(width, height, 3)), ("3" * width + "\n") * height)

    def test_told_is_a_text(self):
        self.assertIs(type(shown(board("12 34"))), str)

    def test_the_board_handed_in_stays_as_it_was(self):
        handed = board("12 34")
        shown(handed)
        self.assertEqual(handed, ((1, 2), (3, 4)))

    def test_boards_somewhat_beyond_the_bounds_are_not_refused(self):
        self.assertEqual(shown(plain_board(9, 10, 1)), "111111111\n" * 10)

    def test_argument_by_its_name(self):
        self.assertEqual(shown(board=board("12")), "12\n")


class Read(unittest.TestCase):
    def test_sign_by_sign(self):
        for rows, text in WRITTEN:
            with self.subTest(text=text):
                self.assertEqual(read(text), board(rows))

    def test_what_is_shown_is_read_back(self):
        for width, height in SIZES:
            for colour in range(10):
                one = with_cell(plain_board(width, height, colour), width - 1, height // 2, 9 - colour)
                self.assertEqual(read(shown(one)), one)
        for each in every_board(3, 3, 2):
            self.assertEqual(read(shown(each)), each)

    def test_told_is_a_tuple_of_tuples_of_whole_numbers(self):
        told = read("12\n34\n")
        self.assertEqual([type(told), type(told[0]), type(told[1])], [tuple] * 3)
        self.assertEqual([type(colour) for row in told for colour in row], [int] * 4)

    def test_argument_by_its_name(self):
        self.assertEqual(read(text="12\n"), board("12"))


class Refused(unittest.TestCase):
    def refused(self, text):
        with self.subTest(text=text):
            with self.assertRaises(BadNote):
                read(text)

    def test_no_text(self):
        self.refused("")

    def test_no_line_end_at_the_end(self):
        for rows, text in WRITTEN:
            self.refused(text[:-1])
        self.refused("12\n34\n5")
        self.refused("12\n34\n56")

    def test_line_ends_alone(self):
        for many in range(1, 11):
            self.refused("\n" * many)

    def test_an_empty_line_at_the_beginning_in_the_middle_and_at_the_end(self):
        for rows, text in WRITTEN:
            self.refused("\n" + text)
            self.refused(text + "\n")
            self.refused(text + "\n" + text)
        self.refused("12\n\n34\n")
        self.refused("12\n34\n\n56\n")

    def test_rows_of_unlike_lengths(self):
        for text in ("12\n3\n", "1\n23\n", "12\n34\n567\n", "12\n345\n67\n", "123\n45\n67\n"):
            self.refused(text)
        self.refused("1\n" * 7 + "11\n")
        self.refused("11\n" + "1\n" * 7)

    def test_nine_rows_and_more(self):
        for height in (9, 10, 20):
            self.refused("1\n" * height)
            self.refused("12345678\n" * height)

    def test_nine_places_and_more(self):
        for width in (9, 10, 30):
            self.refused("1" * width + "\n")
            self.refused(("1" * width + "\n") * 2)
        self.refused("123456789\n" * 9)

    def test_two_hundred_signs(self):
        self.refused("1" * 200)
        self.refused("1" * 199 + "\n")
        self.refused("1\n" * 100)
        self.refused(" " * 200)

    def test_a_sign_that_is_no_figure_at_any_place(self):
        for text in ("1\n", "12\n34\n", "123\n456\n"):
            for place in range(len(text) + 1):
                for sign in NO_FIGURES:
                    self.refused(text[:place] + sign + text[place:])
                    if place < len(text):
                        self.refused(text[:place] + sign + text[place + 1:])

    def test_signs_alone(self):
        for sign in NO_FIGURES:
            self.refused(sign)
            self.refused(sign + "\n")
            self.refused("\n" + sign)

    def test_numbers_that_are_no_figures(self):
        for row in ("-1", "+1", "1_0", " 1", "1 ", "1 2", "1,2", "0x1", "1.0", "1e1", "\t1", "1\t"):
            self.refused(row + "\n")
            self.refused(row + "\n" + "1" * len(row) + "\n")

    def test_all_short_texts_of_some_signs(self):
        for length in range(7):
            for signs in itertools.product("07\n -", repeat=length):
                text = "".join(signs)
                rows = text.split("\n")[:-1]
                if re.fullmatch("([07]+\n)+", text) and len({len(row) for row in rows}) == 1:
                    self.assertEqual(read(text), board(text))
                else:
                    with self.assertRaises(BadNote, msg=repr(text)):
                        read(text)


if __name__ == "__main__":
    unittest.main()
