"""Points 1 and 7 and the interface's part on rights."""

import itertools
import unittest

from earmarks.errors import HasRight, NoRight
from earmarks.rights import Rights

GREAT = 10 ** 5000
A = (1, 0, 0, 0, 0, 0)
B = (0, 2, 0, 0, 0, 0)
C = (0, 0, 3, 0, 0, 9)
ROWS = [(1, 1, B), (2, 1, C), (1, 1, A), (1, 2, A), (3, 2, B), (2, 1, B)]
ADDINGS = [("add_right", owner, ground, mark) for owner in (1, 2) for ground in (1, 2) for mark in (A, B)]
DROPPINGS = [("drop", owner, ground) for owner in (1, 2) for ground in (1, 2)]
HANDINGS = [("hand_over", elder, heir) for elder in (1, 2) for heir in (1, 2)]


def made(rows):
    rights = Rights()
    for owner, ground, mark in rows:
        rights.add_right(owner, ground, mark)
    return rights


class Ledger:
    """Point 7 by its own words, over a plain list."""

    def __init__(self):
        self.rows = []

    def add_right(self, owner, ground, mark):
        if (owner, ground, mark) in self.rows:
            return HasRight
        self.rows.append((owner, ground, mark))
        return None

    def drop(self, owner, ground):
        gone = [row[2] for row in self.rows if row[:2] == (owner, ground)]
        self.rows = [row for row in self.rows if row[:2] != (owner, ground)]
        return gone or NoRight

    def hand_over(self, elder, heir):
        kept = []
        for owner, ground, mark in self.rows:
            row = (heir, ground, mark) if owner == elder else (owner, ground, mark)
            if row not in kept:
                kept.append(row)
        self.rows = kept


def answered(thing, deed):
    """The answer of a deed, or the class of its refusal."""
    try:
        return getattr(thing, deed[0])(*deed[1:])
    except (HasRight, NoRight) as refusal:
        return refusal.__class__


class NoRightsTest(unittest.TestCase):
    def test_nothing_is_told(self):
        rights = Rights()
        self.assertEqual(rights.all_rows(), [])
        for owner, ground in itertools.product((0, 1, -1, GREAT, -GREAT), repeat=2):
            self.assertEqual(rights.marks(owner, ground), [])
            self.assertIs(rights.has_right(owner, ground), False)
            with self.assertRaises(NoRight):
                rights.drop(owner, ground)
        self.assertEqual(rights.in_grounds([]), [])
        self.assertEqual(rights.in_grounds([1, 2, 0, -1, GREAT]), [])

    def test_handing_over_where_there_is_nothing(self):
        rights = Rights()
        self.assertIsNone(rights.hand_over(1, 2))
        self.assertIsNone(rights.hand_over(1, 1))
        self.assertEqual(rights.all_rows(), [])


class AddRightTest(unittest.TestCase):
    def test_rows_stand_as_they_came(self):
        for rows in itertools.permutations(ROWS):
            self.assertEqual(made(rows).all_rows(), list(rows))

    def test_answers_none(self):
        self.assertIsNone(Rights().add_right(1, 2, A))

    def test_the_same_right_twice(self):
        rights = made(ROWS)
        for owner, ground, mark in ROWS:
            with self.assertRaises(HasRight):
                rights.add_right(owner, ground, mark)
        self.assertEqual(rights.all_rows(), ROWS)

    def test_a_right_that_is_another_in_one_thing_alone(self):
        rights = made([(1, 1, A)])
        for row in ((2, 1, A), (1, 2, A), (1, 1, B)):
            self.assertIsNone(rights.add_right(*row))
        self.assertEqual(rights.all_rows(), [(1, 1, A), (2, 1, A), (1, 2, A), (1, 1, B)])

    def test_numbers_of_any_size(self):
        rows = [(owner, ground, A) for owner in (0, -1, GREAT, -GREAT) for ground in (0, -1, GREAT, -GREAT)]
        rights = made(rows)
        self.assertEqual(rights.all_rows(), rows)
        for owner, ground, mark in rows:
            self.assertEqual(rights.marks(owner, ground), [A])
            with self.assertRaises(HasRight):
                rights.add_right(owner, ground, mark)

    def test_by_name(self):
        rights = Rights()
        rights.add_right(mark=A, ground=2, owner=1)
        self.assertEqual(rights.all_rows(), [(1, 2, A)])
        self.assertEqual(rights.marks(ground=2, owner=1), [A])
        self.assertIs(rights.has_right(ground=2, owner=1), True)
        rights.hand_over(heir=3, elder=1)
        self.assertEqual(rights.in_grounds(grounds=[2]), [(3, A)])
        self.assertEqual(rights.drop(ground=2, owner=3), [A])


class MarksTest(unittest.TestCase):
    def test_an_owner_with_several_marks_at_a_ground(self):
        for order in itertools.permutations((A, B, C)):
            rights = made([(1, 1, mark) for mark in order])
            self.assertEqual(rights.marks(1, 1), list(order))

    def test_of_that_owner_and_that_ground_alone(self):
        rights = made(ROWS)
        told = {(1, 1): [B, A], (2, 1): [C, B], (1, 2): [A], (3, 2): [B]}
        for owner, ground in itertools.product((-1, 0, 1, 2, 3, 4, GREAT), repeat=2):
            self.assertEqual(rights.marks(owner, ground), told.get((owner, ground), []))
            self.assertIs(rights.has_right(owner, ground), (owner, ground) in told)


class DropTest(unittest.TestCase):
    def test_all_marks_of_that_owner_at_that_ground_go(self):
        rights = made(ROWS)
        self.assertEqual(rights.drop(1, 1), [B, A])
        self.assertEqual(rights.all_rows(), [(2, 1, C), (1, 2, A), (3, 2, B), (2, 1, B)])
        self.assertIs(rights.has_right(1, 1), False)
        self.assertIs(rights.has_right(1, 2), True)

    def test_twice(self):
        rights = made(ROWS)
        rights.drop(3, 2)
        with self.assertRaises(NoRight):
            rights.drop(3, 2)
        self.assertEqual(rights.all_rows(), [row for row in ROWS if row[0] != 3])

    def test_where_there_is_none(self):
        rights = made(ROWS)
        for owner, ground in ((3, 1), (2, 2), (1, 3), (0, 1), (1, 0), (-1, 1), (GREAT, 1), (1, -GREAT)):
            with self.assertRaises(NoRight):
                rights.drop(owner, ground)
        self.assertEqual(rights.all_rows(), ROWS)

    def test_what_comes_anew_stands_last(self):
        rights = made([(1, 1, A), (1, 1, B), (2, 1, C)])
        rights.drop(1, 1)
        rights.add_right(1, 1, B)
        rights.add_right(1, 1, A)
        self.assertEqual(rights.all_rows(), [(2, 1, C), (1, 1, B), (1, 1, A)])
        self.assertEqual(rights.marks(1, 1), [B, A])


class HandOverTest(unittest.TestCase):
    def test_each_row_in_its_place(self):
        rights = made(ROWS)
        self.assertIsNone(rights.hand_over(1, 4))
        self.assertEqual(rights.all_rows(), [(4, 1, B), (2, 1, C), (4, 1, A), (4, 2, A), (3, 2, B), (2, 1, B)])
        self.assertIs(rights.has_right(1, 1), False)

    def test_to_an_heir_who_has_the_same_mark_there(self):
        rights = made(ROWS)
        rights.hand_over(1, 2)
        self.assertEqual(rights.all_rows(), [(2, 1, B), (2, 1, C), (2, 1, A), (2, 2, A), (3, 2, B)])
        self.assertEqual(rights.marks(2, 1), [B, C, A])

    def test_where_the_heirs_row_is_the_foremost(self):
        rights = made([(2, 1, A), (3, 1, C), (1, 1, B), (1, 1, A), (2, 1, B)])
        rights.hand_over(1, 2)
        self.assertEqual(rights.all_rows(), [(2, 1, A), (3, 1, C), (2, 1, B)])

    def test_the_same_mark_at_another_ground_is_no_like_row(self):
        rights = made([(1, 1, A), (2, 2, A)])
        rights.hand_over(1, 2)
        self.assertEqual(rights.all_rows(), [(2, 1, A), (2, 2, A)])

    def test_to_oneself(self):
        rights = made(ROWS)
        for owner in (1, 2, 3, 4, 0, GREAT):
            self.assertIsNone(rights.hand_over(owner, owner))
            self.assertEqual(rights.all_rows(), ROWS)

    def test_of_an_elder_who_has_none(self):
        rights = made(ROWS)
        for elder in (0, -1, 4, GREAT, -GREAT):
            rights.hand_over(elder, 1)
        self.assertEqual(rights.all_rows(), ROWS)

    def test_a_row_that_was_handed_over_is_not_there_any_more(self):
        rights = made([(1, 1, A), (2, 1, B)])
        rights.hand_over(1, 2)
        with self.assertRaises(HasRight):
            rights.add_right(2, 1, A)
        rights.add_right(1, 1, A)
        self.assertEqual(rights.all_rows(), [(2, 1, A), (2, 1, B), (1, 1, A)])


class InGroundsTest(unittest.TestCase):
    def test_as_the_rights_came(self):
        rights = made(ROWS)
        self.assertEqual(rights.in_grounds([1]), [(1, B), (2, C), (1, A), (2, B)])
        self.assertEqual(rights.in_grounds([2]), [(1, A), (3, B)])
        for grounds in ([1, 2], [2, 1], [2, 1, 2, 1, 1], [0, 1, 2, 3, GREAT]):
            # One pair for each right: owner 1 has the mark A at both grounds.
            self.assertEqual(rights.in_grounds(grounds), [(1, B), (2, C), (1, A), (1, A), (3, B), (2, B)])

    def test_no_grounds_and_grounds_without_rights(self):
        rights = made(ROWS)
        for grounds in ([], [3], [0, -1, GREAT, -GREAT]):
            self.assertEqual(rights.in_grounds(grounds), [])


class SequenceTest(unittest.TestCase):
    def test_all_rows_of_four_deeds(self):
        for row in itertools.product(ADDINGS + DROPPINGS + HANDINGS, repeat=4):
            rights = Rights()
            told = Ledger()
            for deed in row:
                self.assertEqual(answered(rights, deed), answered(told, deed), row)
            self.assertEqual(rights.all_rows(), told.rows, row)


class KeptApartTest(unittest.TestCase):
    def test_told_lists_are_their_askers_own(self):
        rights = made(ROWS)
        for told in (rights.all_rows(), rights.marks(1, 1), rights.in_grounds([1, 2]), rights.drop(3, 2)):
            self.assertIs(told.__class__, list)
            told.clear()
            told.append((9, 9, A))
        left = [row for row in ROWS if row[0] != 3]
        self.assertEqual(rights.all_rows(), left)
        self.assertEqual(rights.marks(1, 1), [B, A])
        self.assertEqual(rights.in_grounds([1, 2]), [(owner, mark) for owner, ground, mark in left])

    def test_told_lists_stay_as_they_were(self):
        rights = made(ROWS)
        rows, marks, pairs = rights.all_rows(), rights.marks(1, 1), rights.in_grounds([2])
        rights.hand_over(1, 2)
        rights.drop(2, 1)
        rights.add_right(5, 5, C)
        self.assertEqual((rows, marks, pairs), (ROWS, [B, A], [(1, A), (3, B)]))

    def test_lists_handed_in_stay_as_they_were_and_are_not_kept(self):
        rights = made(ROWS)
        grounds = [2, 1, 1]
        before = rights.in_grounds(grounds)
        self.assertEqual(grounds, [2, 1, 1])
        grounds.clear()
        self.assertEqual(rights.in_grounds([2, 1, 1]), before)
        self.assertEqual(rights.all_rows(), ROWS)

    def test_two_objects_stay_apart(self):
        first = made(ROWS)
        second = Rights()
        self.assertEqual(second.all_rows(), [])
        second.add_right(1, 1, B)
        second.hand_over(1, 2)
        self.assertEqual(first.all_rows(), ROWS)
        first.drop(1, 1)
        self.assertEqual(second.all_rows(), [(2, 1, B)])


if __name__ == "__main__":
    unittest.main()
