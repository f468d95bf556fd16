"""Points 3 and 4: kinds of kinship, their turnings and their deeds."""

import itertools
import unittest

from boardkin.deeds import deeds, turnings
from boardkin.errors import NoKinship, NotSquare
from helper import KINSHIPS, NO_KINSHIPS, SIZES, asked_deeds


class Turnings(unittest.TestCase):
    def test_all_sixteen_kinships(self):
        self.assertEqual(len(KINSHIPS), 16)
        for kinship, asked in KINSHIPS.items():
            with self.subTest(kinship=kinship):
                self.assertEqual(turnings(kinship), asked)

    def test_told_is_a_list_of_whole_numbers(self):
        for kinship in KINSHIPS:
            told = turnings(kinship)
            self.assertIs(type(told), list)
            self.assertEqual([type(turning) for turning in told], [int] * len(told))

    def test_texts_that_are_no_kinship(self):
        for text in NO_KINSHIPS:
            with self.subTest(text=text):
                with self.assertRaises(NoKinship):
                    turnings(text)

    def test_all_short_texts_of_some_signs(self):
        for length in range(5):
            for signs in itertools.product("hqmsHx ", repeat=length):
                text = "".join(signs)
                if text not in KINSHIPS:
                    with self.subTest(text=text):
                        with self.assertRaises(NoKinship):
                            turnings(text)

    def test_lists_are_the_askers_own(self):
        for kinship, asked in KINSHIPS.items():
            with self.subTest(kinship=kinship):
                first = turnings(kinship)
                second = turnings(kinship)
                self.assertIsNot(first, second)
                first.append(99)
                first[0] = 77
                self.assertEqual(second, asked)
                self.assertEqual(turnings(kinship), asked)
                second.clear()
                self.assertEqual(turnings(kinship), asked)

    def test_lists_of_two_kinships_are_not_one(self):
        told = [turnings(kinship) for kinship in KINSHIPS]
        for each in told:
            each.append(99)
        self.assertEqual([each[:-1] for each in told], list(KINSHIPS.values()))

    def test_a_turnings_list_changed_changes_no_deeds(self):
        turnings("hm").clear()
        self.assertEqual(deeds("hm", 2, 1), [(0, 0, 0), (2, 0, 0), (4, 0, 0), (6, 0, 0)])

    def test_argument_by_its_name(self):
        self.assertEqual(turnings(kinship="hm"), [0, 2, 4, 6])


class Deeds(unittest.TestCase):
    def test_without_s(self):
        self.assertEqual(deeds("", 3, 2), [(0, 0, 0)])
        self.assertEqual(deeds("h", 3, 2), [(0, 0, 0), (2, 0, 0)])
        self.assertEqual(deeds("q", 2, 2), [(0, 0, 0), (1, 0, 0), (2, 0, 0), (3, 0, 0)])
        self.assertEqual(deeds("m", 8, 8), [(0, 0, 0), (4, 0, 0)])
        self.assertEqual(deeds("hqm", 3, 3), [(turning, 0, 0) for turning in range(8)])

    def test_with_s(self):
        self.assertEqual(
            deeds("s", 3, 2),
            [(0, 0, 0), (0, 0, 1), (0, 1, 0), (0, 1, 1), (0, 2, 0), (0, 2, 1)],
        )
        self.assertEqual(
            deeds("ms", 2, 2),
            [(0, 0, 0), (0, 0, 1), (0, 1, 0), (0, 1, 1), (4, 0, 0), (4, 0, 1), (4, 1, 0), (4, 1, 1)],
        )

    def test_one_row_one_place_one_cell(self):
        self.assertEqual(deeds("s", 3, 1), [(0, 0, 0), (0, 1, 0), (0, 2, 0)])
        self.assertEqual(deeds("s", 1, 3), [(0, 0, 0), (0, 0, 1), (0, 0, 2)])
        self.assertEqual(deeds("hs", 2, 1), [(0, 0, 0), (0, 1, 0), (2, 0, 0), (2, 1, 0)])
        self.assertEqual(deeds("hqms", 1, 1), [(turning, 0, 0) for turning in range(8)])

    def test_all_kinships_of_all_sizes(self):
        for width, height in SIZES:
            for kinship in KINSHIPS:
                if "q" not in kinship or width == height:
                    with self.subTest(kinship=kinship, width=width, height=height):
                        told = deeds(kinship, width, height)
                        self.assertEqual(told, asked_deeds(kinship, width, height))
                        self.assertEqual(told, sorted(told))

    def test_told_is_a_list_of_tuples_of_whole_numbers(self):
        for kinship in KINSHIPS:
            told = deeds(kinship, 2, 2)
            self.assertIs(type(told), list)
            for deed in told:
                self.assertIs(type(deed), tuple)
                self.assertEqual([type(number) for number in deed], [int] * 3)

    def test_texts_that_are_no_kinship(self):
        for text in NO_KINSHIPS:
            with self.subTest(text=text):
                with self.assertRaises(NoKinship):
                    deeds(text, 3, 3)

    def test_no_kinship_comes_ahead_of_not_square(self):
        for text in NO_KINSHIPS:
            with self.subTest(text=text):
                with self.assertRaises(NoKinship):
                    deeds(text, 3, 2)
                with self.assertRaises(NoKinship):
                    deeds(text, 1, 2)

    def test_kinships_with_q_are_for_square_boards(self):
        for width, height in SIZES:
            for kinship in KINSHIPS:
                if "q" in kinship and width != height:
                    with self.subTest(kinship=kinship, width=width, height=height):
                        with self.assertRaises(NotSquare):
                            deeds(kinship, width, height)

    def test_sizes_somewhat_beyond_the_bounds_are_not_refused(self):
        self.assertEqual(deeds("hms", 9, 10), asked_deeds("hms", 9, 10))
        self.assertEqual(deeds("hqms", 9, 9), asked_deeds("hqms", 9, 9))
        self.assertEqual(deeds("h", 12, 9), [(0, 0, 0), (2, 0, 0)])

    def test_lists_are_the_askers_own(self):
        for kinship in KINSHIPS:
            with self.subTest(kinship=kinship):
                asked = asked_deeds(kinship, 2, 2)
                first = deeds(kinship, 2, 2)
                second = deeds(kinship, 2, 2)
                self.assertIsNot(first, second)
                first.append((9, 9, 9))
                first[0] = (8, 8, 8)
                self.assertEqual(second, asked)
                self.assertEqual(deeds(kinship, 2, 2), asked)
                second.clear()
                self.assertEqual(deeds(kinship, 2, 2), asked)
                self.assertEqual(turnings(kinship), KINSHIPS[kinship])

    def test_arguments_by_their_names(self):
        self.assertEqual(deeds(kinship="s", width=2, height=1), [(0, 0, 0), (0, 1, 0)])


if __name__ == "__main__":
    unittest.main()
