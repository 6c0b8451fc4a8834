"""Points 16 and 17 and the interface's part on errors."""

import unittest

from earmarks import errors

PLAIN = (
    "BadEar", "Bare", "BadAllowance", "BadExtra", "NoPlace", "Deepest", "NoOwner", "NoGround",
    "NoBeast", "NoRight", "HasRight", "StillThere", "Dead", "Unmarked", "SameOwner", "SameGround",
    "Together", "Alone", "NoneFree", "BadDeed", "BadLine", "NoStand",
)
ONES = (1, (1, 0, 0, 0, 0, 0))
OTHERS = (2, (0, 1, 0, 0, 0, 0))
BOTH = (1, 1, 0, 0, 0, 0)
GREAT = 10 ** 5000


def all_refusals():
    made = {name: getattr(errors, name)() for name in PLAIN}
    made["Clash"] = errors.Clash(ONES, OTHERS, BOTH)
    made["BadPage"] = errors.BadPage(1)
    return made


class CommonErrorTest(unittest.TestCase):
    def test_stands_straight_under_value_error(self):
        self.assertEqual(errors.CommonError.__bases__, (ValueError,))


class RefusalsTest(unittest.TestCase):
    def test_twenty_two_are_made_without_anything(self):
        self.assertEqual(len(set(PLAIN)), 22)
        for name in PLAIN:
            with self.subTest(name):
                self.assertIsInstance(getattr(errors, name)(), getattr(errors, name))

    def test_each_stands_straight_under_common_error(self):
        for name, made in all_refusals().items():
            with self.subTest(name):
                self.assertEqual(made.__class__.__bases__, (errors.CommonError,))
                self.assertEqual(made.__class__.__name__, name)

    def test_none_stands_under_another(self):
        made = all_refusals()
        for name, refusal in made.items():
            for other in made:
                with self.subTest(name, other=other):
                    self.assertEqual(isinstance(refusal, getattr(errors, other)), name == other)

    def test_each_is_taken_as_itself_and_by_what_it_stands_under(self):
        for name, made in all_refusals().items():
            for taken in (getattr(errors, name), errors.CommonError, ValueError):
                with self.subTest(name, taken=taken):
                    with self.assertRaises(taken) as caught:
                        raise made
                    self.assertIs(caught.exception, made)


class ClashTest(unittest.TestCase):
    def check(self, clash, ones, others, ear):
        self.assertEqual((clash.ones, clash.others, clash.ear), (ones, others, ear))

    def test_fields_by_place(self):
        self.check(errors.Clash(ONES, OTHERS, BOTH), ONES, OTHERS, BOTH)

    def test_fields_by_name(self):
        self.check(errors.Clash(ear=BOTH, others=OTHERS, ones=ONES), ONES, OTHERS, BOTH)

    def test_fields_stay_when_it_is_raised(self):
        with self.assertRaises(errors.Clash) as caught:
            raise errors.Clash(ONES, OTHERS, BOTH)
        self.check(caught.exception, ONES, OTHERS, BOTH)

    def test_very_great_owners(self):
        ones = (GREAT, BOTH)
        others = (GREAT + 1, BOTH)
        self.check(errors.Clash(ones, others, BOTH), ones, others, BOTH)

    def test_two_know_nothing_of_one_another(self):
        first = errors.Clash(ONES, OTHERS, BOTH)
        second = errors.Clash(OTHERS, ONES, BOTH)
        self.check(first, ONES, OTHERS, BOTH)
        self.check(second, OTHERS, ONES, BOTH)


class BadPageTest(unittest.TestCase):
    def test_field(self):
        for at in (1, 2, 999999999, GREAT):
            with self.subTest(digits=at.bit_length()):
                self.assertEqual(errors.BadPage(at).at, at)
                self.assertEqual(errors.BadPage(at=at).at, at)

    def test_two_know_nothing_of_one_another(self):
        first = errors.BadPage(1)
        second = errors.BadPage(2)
        self.assertEqual((first.at, second.at), (1, 2))


if __name__ == "__main__":
    unittest.main()
