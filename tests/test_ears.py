"""Points 1, 2 and 3 and the interface's part on ears."""

import itertools
import unittest

from earmarks.ears import by_number, is_ear, number, read_ear, shown
from earmarks.errors import BadEar

PLACES = ("lt", "lf", "lh", "rt", "rf", "rh")
GREAT = 10 ** 5000
# Every sign that a text can have: from the blank to ~, and the line end.
SIGNS = [chr(code) for code in range(32, 127)] + ["\n"]
# The step is prime, so that all depths come by at all places.
SOME_NUMBERS = list(range(0, 1000000, 37)) + [999999]


def figures(told):
    return tuple(int(figure) for figure in str(told).rjust(6, "0"))


def with_depth(place, depth, rest=0):
    parts = [rest] * 6
    parts[place] = depth
    return tuple(parts)


class IsEarTest(unittest.TestCase):
    def test_six_depths_alone(self):
        for many in range(13):
            for depth in (0, 1, 9):
                with self.subTest(many=many, depth=depth):
                    self.assertIs(is_ear((depth,) * many), many == 6)

    def test_the_empty_tuple(self):
        self.assertIs(is_ear(()), False)

    def test_every_depth_from_0_to_9_at_every_place(self):
        for place in range(6):
            for depth in range(10):
                for rest in (0, 5, 9):
                    self.assertIs(is_ear(with_depth(place, depth, rest)), True)

    def test_depths_out_of_bounds_at_every_place(self):
        for place in range(6):
            for depth in (-1, -2, -9, 10, 11, 99, GREAT, -GREAT):
                with self.subTest(place=place, great=depth.bit_length()):
                    self.assertIs(is_ear(with_depth(place, depth)), False)
                    self.assertIs(is_ear(with_depth(place, depth, 9)), False)

    def test_sums_make_no_ear_good(self):
        self.assertIs(is_ear((-1, 1, 0, 0, 0, 0)), False)
        self.assertIs(is_ear((10, -10, 0, 0, 0, 0)), False)


class NumberTest(unittest.TestCase):
    def test_told(self):
        self.assertEqual(number((0, 0, 0, 0, 0, 0)), 0)
        self.assertEqual(number((9, 9, 9, 9, 9, 9)), 999999)
        self.assertEqual(number((1, 2, 3, 4, 5, 6)), 123456)
        self.assertEqual(number((1, 0, 0, 0, 0, 0)), 100000)
        self.assertEqual(number((0, 0, 0, 0, 0, 1)), 1)

    def test_by_number(self):
        self.assertEqual(by_number(0), (0, 0, 0, 0, 0, 0))
        self.assertEqual(by_number(999999), (9, 9, 9, 9, 9, 9))
        self.assertEqual(by_number(123456), (1, 2, 3, 4, 5, 6))
        self.assertEqual(by_number(7), (0, 0, 0, 0, 0, 7))
        self.assertEqual(by_number(100000), (1, 0, 0, 0, 0, 0))

    def test_there_and_back(self):
        for told in SOME_NUMBERS:
            ear = by_number(told)
            self.assertEqual(ear, figures(told))
            self.assertIs(ear.__class__, tuple)
            self.assertEqual(number(ear), told)

    def test_numbers_of_no_ear(self):
        for told in (-1, -2, -999999, 1000000, 1000001, 9999999, GREAT, -GREAT):
            with self.subTest(great=told.bit_length()):
                with self.assertRaises(BadEar):
                    by_number(told)


class ShownTest(unittest.TestCase):
    def test_no_cut(self):
        self.assertEqual(shown((0, 0, 0, 0, 0, 0)), "none")

    def test_one_cut(self):
        for place, name in enumerate(PLACES):
            for depth in range(1, 10):
                self.assertEqual(shown(with_depth(place, depth)), f"{name}{depth}")

    def test_several_cuts(self):
        self.assertEqual(shown((0, 3, 0, 0, 0, 9)), "lf3 rh9")
        self.assertEqual(shown((1, 2, 3, 4, 5, 6)), "lt1 lf2 lh3 rt4 rf5 rh6")
        self.assertEqual(shown((9, 9, 9, 9, 9, 9)), "lt9 lf9 lh9 rt9 rf9 rh9")


class ReadEarTest(unittest.TestCase):
    def refuse(self, text):
        with self.subTest(text):
            with self.assertRaises(BadEar):
                read_ear(text)

    def test_no_cut(self):
        self.assertEqual(read_ear("none"), (0, 0, 0, 0, 0, 0))

    def test_cuts(self):
        self.assertEqual(read_ear("lt1"), (1, 0, 0, 0, 0, 0))
        self.assertEqual(read_ear("rh9"), (0, 0, 0, 0, 0, 9))
        self.assertEqual(read_ear("lf3 rh9"), (0, 3, 0, 0, 0, 9))
        self.assertEqual(read_ear("lt1 lf2 lh3 rt4 rf5 rh6"), (1, 2, 3, 4, 5, 6))

    def test_there_and_back(self):
        for told in SOME_NUMBERS:
            ear = figures(told)
            back = read_ear(shown(ear))
            self.assertEqual(back, ear)
            self.assertIs(back.__class__, tuple)

    def test_a_place_twice(self):
        for name in PLACES:
            self.refuse(f"{name}1 {name}1")
            self.refuse(f"{name}1 {name}2")
        self.refuse("lt1 lf2 lt1")
        self.refuse("lt1 lf2 lh3 rt4 rf5 rh6 rh6")

    def test_places_out_of_order(self):
        for one, other in itertools.combinations(PLACES, 2):
            self.refuse(f"{other}1 {one}1")
        words = ("lt1", "lf2", "lh3", "rt4", "rf5", "rh6")
        for row in itertools.permutations(words):
            if row != words:
                self.refuse(" ".join(row))

    def test_depths_that_are_none(self):
        for name in PLACES:
            for depth in ("", "0", "00", "01", "10", "11", "99", "1.", "-1", "+1", "1_", "12345"):
                self.refuse(name + depth)
                self.refuse(f"lt1 {name}{depth}")

    def test_signs_that_are_no_figure(self):
        for name in PLACES:
            for sign in SIGNS:
                if sign not in list("123456789"):
                    self.refuse(name + sign)

    def test_letters_that_are_no_place(self):
        letters = "lrtfhLRTFHx1 \n"
        for one, other in itertools.product(letters, repeat=2):
            if one + other not in PLACES:
                self.refuse(f"{one}{other}1")

    def test_great_letters(self):
        for text in ("LT1", "Lt1", "lT1", "lt1 RF2", "NONE", "None", "nonE"):
            self.refuse(text)

    def test_no_word_at_all(self):
        for text in ("", " ", "  ", "\n", "\n\n", " \n"):
            self.refuse(text)

    def test_a_blank_or_a_line_end_or_any_sign_more_at_any_place(self):
        for text in ("none", "lt1", "lf3 rh9", "lt1 lf2 lh3 rt4 rf5 rh6"):
            for at in range(len(text) + 1):
                for sign in SIGNS:
                    self.refuse(text[:at] + sign + text[at:])

    def test_a_sign_less_at_any_place(self):
        for text in ("none", "lt1", "lf3 rh9", "lt1 lf2 lh3 rt4 rf5 rh6"):
            for at in range(len(text)):
                self.refuse(text[:at] + text[at + 1:])

    def test_another_sign_between_two_words(self):
        for sign in SIGNS:
            if sign != " ":
                self.refuse(f"lf3{sign}rh9")

    def test_none_beside_another_word(self):
        for text in ("none none", "none lt1", "lt1 none", "lt1 none rh1", "nonelt1", "none0"):
            self.refuse(text)

    def test_parts_of_words(self):
        for text in ("l", "lt", "1", "t1", "non", "lt1 r", "lt1 rh", "ltlf1", "lt1rh2", "123", "000000"):
            self.refuse(text)


if __name__ == "__main__":
    unittest.main()
