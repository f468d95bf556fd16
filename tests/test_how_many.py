"""Point 9: the number of families."""

import unittest

from boardkin.counting import how_many
from boardkin.errors import NoKinship, NotSquare
from boardkin.families import families
from helper import KINSHIPS, LENGTHS, NO_KINSHIPS, SIZES, asked_deeds, asked_rounds, fitting_kinships, good_time

# Colours, width and height.
SMALL = [
    (1, 1, 1), (10, 1, 1), (3, 2, 1), (3, 1, 2), (10, 3, 1), (5, 4, 1), (4, 1, 5), (2, 7, 1), (2, 1, 8), (5, 2, 2),
    (3, 3, 2), (3, 2, 3), (2, 4, 2), (2, 2, 5), (2, 3, 3),
]


class HowMany(unittest.TestCase):
    def test_by_hand(self):
        self.assertEqual(how_many(2, "", 2, 1), 4)
        self.assertEqual(how_many(2, "h", 2, 1), 3)
        self.assertEqual(how_many(2, "s", 2, 2), 7)
        self.assertEqual(how_many(3, "s", 3, 1), 11)
        self.assertEqual(how_many(3, "ms", 3, 1), 10)
        self.assertEqual(how_many(10, "hqms", 1, 1), 10)

    def test_well_known_numbers(self):
        self.assertEqual([how_many(2, "q", length, length) for length in range(1, 5)], [2, 6, 140, 16456])
        self.assertEqual([how_many(2, "qm", length, length) for length in range(1, 5)], [2, 6, 102, 8548])
        self.assertEqual([how_many(2, "s", length, length) for length in range(1, 5)], [2, 7, 64, 4156])
        self.assertEqual([how_many(2, "s", length, 1) for length in LENGTHS], [2, 3, 4, 6, 8, 14, 20, 36])
        self.assertEqual([how_many(2, "ms", length, 1) for length in LENGTHS], [2, 3, 4, 6, 8, 13, 18, 30])

    def test_as_many_as_families_are_told(self):
        for colours, width, height in SMALL:
            for kinship in fitting_kinships(width, height):
                asked = len(families(colours, kinship, width, height))
                self.assertEqual(how_many(colours, kinship, width, height), asked, (colours, kinship, width, height))

    def test_with_one_colour(self):
        for width, height in SIZES:
            for kinship in fitting_kinships(width, height):
                self.assertEqual(how_many(1, kinship, width, height), 1, (kinship, width, height))

    def test_larger_sizes_against_all_deeds(self):
        for colours, width, height in [(3, 5, 5), (10, 6, 4), (2, 7, 8), (7, 4, 4), (10, 8, 8)]:
            for kinship in fitting_kinships(width, height)[1::4] + ["hms"]:
                all_deeds = asked_deeds(kinship, width, height)
                lengths = [asked_rounds(deed, width, height) for deed in all_deeds]
                asked, rest = divmod(sum(colours ** len(each) for each in lengths), len(all_deeds))
                self.assertEqual(rest, 0)
                self.assertEqual(how_many(colours, kinship, width, height), asked, (colours, kinship, width, height))

    def test_eight_by_eight_with_ten_colours_and_all_letters(self):
        with good_time():
            told = how_many(10, "hqms", 8, 8)
        all_deeds = asked_deeds("hqms", 8, 8)
        asked, rest = divmod(sum(10 ** len(asked_rounds(deed, 8, 8)) for deed in all_deeds), 512)
        self.assertEqual((told, rest), (asked, 0))

    def test_told_is_a_whole_number(self):
        self.assertIs(type(how_many(2, "hqms", 3, 3)), int)

    def test_colours_and_sizes_somewhat_beyond_the_bounds_are_not_refused(self):
        self.assertEqual(how_many(12, "m", 2, 1), 78)
        self.assertEqual(how_many(2, "s", 9, 1), 60)
        self.assertEqual(how_many(1, "hqms", 9, 9), 1)

    def test_arguments_by_their_names(self):
        self.assertEqual(how_many(colours=2, kinship="m", width=2, height=1), 3)


class Refusals(unittest.TestCase):
    def refused(self, kinship, width, height, error):
        with self.subTest(kinship=kinship, width=width, height=height):
            with self.assertRaises(error):
                how_many(2, kinship, width, height)

    def test_texts_that_are_no_kinship(self):
        for text in NO_KINSHIPS:
            self.refused(text, 3, 3, NoKinship)

    def test_no_kinship_comes_ahead_of_not_square(self):
        for text in NO_KINSHIPS:
            self.refused(text, 3, 2, NoKinship)

    def test_kinships_with_q_are_for_square_boards(self):
        for width, height in SIZES:
            for kinship in KINSHIPS:
                if "q" in kinship and width != height:
                    self.refused(kinship, width, height, NotSquare)


if __name__ == "__main__":
    unittest.main()
