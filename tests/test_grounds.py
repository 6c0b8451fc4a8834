"""Points 1 and 6 and the interface's part on grounds."""

import itertools
import unittest

from earmarks.errors import Alone, BadAllowance, NoGround, Together
from earmarks.grounds import Grounds

GREAT = 10 ** 5000
ALLOWANCES = (3, 0, 9, 5)
NUMBERS = range(1, len(ALLOWANCES) + 1)
UNITINGS = [("unite", one, other) for one, other in itertools.product(range(6), repeat=2)]
PARTINGS = [("part", ground) for ground in range(6)]


def made(allowances):
    grounds = Grounds()
    for allowance in allowances:
        grounds.add_ground(allowance)
    return grounds


def stand(grounds):
    """All that grounds tell, one by one."""
    numbers = range(1, grounds.many() + 1)
    return [(grounds.allowance(at), grounds.together(at), grounds.room(at)) for at in numbers]


class Partition:
    """Point 6 by its own words, over sets of grounds."""

    def __init__(self):
        self.sets = [{ground} for ground in NUMBERS]

    def lying(self, ground):
        return next(found for found in self.sets if ground in found)

    def unite(self, one, other):
        if one not in NUMBERS or other not in NUMBERS:
            return NoGround
        if other in self.lying(one):
            return Together
        both = self.lying(one) | self.lying(other)
        self.sets = [found for found in self.sets if not found & both] + [both]
        return sorted(both)

    def part(self, ground):
        if ground not in NUMBERS:
            return NoGround
        left = self.lying(ground) - {ground}
        if not left:
            return Alone
        self.sets = [found for found in self.sets if ground not in found] + [{ground}, left]
        return sorted(left)

    def stand(self):
        return [
            (ALLOWANCES[at - 1], sorted(self.lying(at)), max(ALLOWANCES[near - 1] for near in self.lying(at)))
            for at in NUMBERS
        ]


def answered(thing, deed):
    """The answer of a deed, or the class of its refusal."""
    try:
        return getattr(thing, deed[0])(*deed[1:])
    except (NoGround, Together, Alone) as refusal:
        return refusal.__class__


class AddGroundTest(unittest.TestCase):
    def test_numbers_rise_from_1(self):
        grounds = Grounds()
        self.assertEqual([grounds.add_ground(2) for at in range(20)], list(range(1, 21)))
        self.assertEqual(grounds.many(), 20)

    def test_every_allowance_from_0_to_9(self):
        grounds = made(range(10))
        self.assertEqual([grounds.allowance(at) for at in range(1, 11)], list(range(10)))
        self.assertEqual([grounds.room(at) for at in range(1, 11)], list(range(10)))

    def test_bad_allowances(self):
        for allowance in (-1, -2, 10, 11, 99, GREAT, -GREAT):
            with self.subTest(great=allowance.bit_length()):
                grounds = made([4])
                with self.assertRaises(BadAllowance):
                    grounds.add_ground(allowance)
                self.assertEqual(stand(grounds), [(4, [1], 4)])
                self.assertIs(grounds.has(2), False)
                self.assertEqual(grounds.add_ground(7), 2)

    def test_a_new_ground_lies_alone(self):
        grounds = made([1, 8])
        grounds.unite(1, 2)
        self.assertEqual(grounds.add_ground(9), 3)
        self.assertEqual(stand(grounds), [(1, [1, 2], 8), (8, [1, 2], 8), (9, [3], 9)])

    def test_by_name(self):
        self.assertEqual(Grounds().add_ground(allowance=0), 1)


class AskingTest(unittest.TestCase):
    ABSENT = (0, -1, -2, 5, 6, 999999999, GREAT, -GREAT)

    def refuse_all(self, grounds, ground):
        self.assertIs(grounds.has(ground), False)
        for ask in (grounds.allowance, grounds.together, grounds.room, grounds.part):
            with self.assertRaises(NoGround):
                ask(ground)

    def test_no_grounds(self):
        grounds = Grounds()
        self.assertEqual(grounds.many(), 0)
        for ground in self.ABSENT + (1, 2, 3, 4):
            with self.subTest(great=ground.bit_length()):
                self.refuse_all(grounds, ground)
                with self.assertRaises(NoGround):
                    grounds.unite(ground, ground)

    def test_one_ground(self):
        grounds = made([6])
        self.assertIs(grounds.has(1), True)
        self.assertEqual((grounds.many(), stand(grounds)), (1, [(6, [1], 6)]))

    def test_grounds_that_are_there(self):
        grounds = made(ALLOWANCES)
        for ground in NUMBERS:
            self.assertIs(grounds.has(ground), True)
        self.assertEqual(grounds.many(), 4)
        self.assertEqual(stand(grounds), [(3, [1], 3), (0, [2], 0), (9, [3], 9), (5, [4], 5)])

    def test_grounds_that_are_not_there(self):
        for unitings in ([], [(1, 3), (3, 4)]):
            grounds = made(ALLOWANCES)
            for one, other in unitings:
                grounds.unite(one, other)
            before = stand(grounds)
            for ground in self.ABSENT:
                with self.subTest(great=ground.bit_length()):
                    self.refuse_all(grounds, ground)
            self.assertEqual(stand(grounds), before)

    def test_by_name(self):
        grounds = made(ALLOWANCES)
        self.assertIs(grounds.has(ground=1), True)
        self.assertEqual(grounds.allowance(ground=1), 3)
        self.assertEqual(grounds.together(ground=1), [1])
        self.assertEqual(grounds.room(ground=1), 3)
        self.assertEqual(grounds.unite(ground=1, other=2), [1, 2])
        self.assertEqual(grounds.part(ground=1), [2])


class UniteTest(unittest.TestCase):
    def test_two_that_lie_alone(self):
        grounds = made(ALLOWANCES)
        self.assertEqual(grounds.unite(4, 1), [1, 4])
        self.assertEqual(stand(grounds), [(3, [1, 4], 5), (0, [2], 0), (9, [3], 9), (5, [1, 4], 5)])

    def test_all_that_lay_together_with_either(self):
        grounds = made((0, 1, 2, 3, 4, 5, 6))
        self.assertEqual(grounds.unite(1, 6), [1, 6])
        self.assertEqual(grounds.unite(5, 2), [2, 5])
        self.assertEqual(grounds.unite(6, 7), [1, 6, 7])
        self.assertEqual(grounds.unite(2, 7), [1, 2, 5, 6, 7])
        for ground in (1, 2, 5, 6, 7):
            self.assertEqual(grounds.together(ground), [1, 2, 5, 6, 7])
            self.assertEqual(grounds.room(ground), 6)
        self.assertEqual((grounds.together(3), grounds.together(4)), ([3], [4]))

    def test_allowances_stay_each_grounds_own(self):
        grounds = made((0, 9))
        grounds.unite(1, 2)
        self.assertEqual(stand(grounds), [(0, [1, 2], 9), (9, [1, 2], 9)])

    def test_a_ground_with_itself(self):
        grounds = made(ALLOWANCES)
        grounds.unite(1, 2)
        before = stand(grounds)
        for ground in NUMBERS:
            with self.assertRaises(Together):
                grounds.unite(ground, ground)
        self.assertEqual(stand(grounds), before)

    def test_with_one_it_lies_together_with_already(self):
        grounds = made(ALLOWANCES)
        grounds.unite(1, 2)
        grounds.unite(3, 2)
        before = stand(grounds)
        for one, other in itertools.permutations((1, 2, 3), 2):
            with self.assertRaises(Together):
                grounds.unite(one, other)
        self.assertEqual(stand(grounds), before)

    def test_no_ground_is_told_ahead_of_together(self):
        grounds = made(ALLOWANCES)
        for absent in (0, -1, 5, GREAT, -GREAT):
            for one, other in ((absent, absent), (absent, 1), (1, absent), (absent, -3)):
                with self.assertRaises(NoGround):
                    grounds.unite(one, other)
        self.assertEqual(stand(grounds), stand(made(ALLOWANCES)))


class PartTest(unittest.TestCase):
    def test_each_of_three(self):
        for ground in (1, 2, 3):
            grounds = made(ALLOWANCES)
            grounds.unite(1, 2)
            grounds.unite(2, 3)
            left = [near for near in (1, 2, 3) if near != ground]
            self.assertEqual(grounds.part(ground), left)
            self.assertEqual(grounds.together(ground), [ground])
            for near in left:
                self.assertEqual(grounds.together(near), left)
            self.assertEqual(grounds.together(4), [4])

    def test_the_room_goes_with_the_ground(self):
        grounds = made(ALLOWANCES)
        grounds.unite(1, 2)
        grounds.unite(2, 3)
        grounds.part(3)
        self.assertEqual([grounds.room(at) for at in NUMBERS], [3, 3, 9, 5])

    def test_one_of_two(self):
        grounds = made(ALLOWANCES)
        grounds.unite(2, 4)
        self.assertEqual(grounds.part(2), [4])
        self.assertEqual(stand(grounds), stand(made(ALLOWANCES)))

    def test_one_that_lies_alone(self):
        grounds = made(ALLOWANCES)
        grounds.unite(1, 2)
        for ground in (3, 4):
            with self.assertRaises(Alone):
                grounds.part(ground)
        grounds.part(1)
        before = stand(grounds)
        for ground in NUMBERS:
            with self.assertRaises(Alone):
                grounds.part(ground)
        self.assertEqual(stand(grounds), before)

    def test_united_anew(self):
        grounds = made(ALLOWANCES)
        grounds.unite(1, 2)
        grounds.unite(1, 3)
        grounds.part(1)
        self.assertEqual(grounds.unite(1, 4), [1, 4])
        self.assertEqual(grounds.unite(4, 3), [1, 2, 3, 4])
        self.assertEqual(grounds.part(2), [1, 3, 4])


class SequenceTest(unittest.TestCase):
    def test_all_rows_of_two_deeds_with_absent_grounds(self):
        for row in itertools.product(UNITINGS + PARTINGS, repeat=2):
            self.follow(row)

    def test_all_rows_of_four_deeds_among_three_grounds(self):
        deeds = [deed for deed in UNITINGS + PARTINGS if all(part in (1, 2, 3) for part in deed[1:])]
        for row in itertools.product(deeds, repeat=4):
            self.follow(row)

    def follow(self, row):
        grounds = made(ALLOWANCES)
        told = Partition()
        for deed in row:
            self.assertEqual(answered(grounds, deed), answered(told, deed), row)
        self.assertEqual(stand(grounds), told.stand(), row)


class KeptApartTest(unittest.TestCase):
    def test_told_lists_are_their_askers_own(self):
        grounds = made(ALLOWANCES)
        told = [grounds.unite(1, 2), grounds.unite(2, 3), grounds.unite(3, 4), grounds.part(2)]
        told += [grounds.together(at) for at in NUMBERS]
        before = stand(grounds)
        for one in told:
            self.assertIs(one.__class__, list)
            one.clear()
            one.append(99)
        self.assertEqual(stand(grounds), before)
        self.assertEqual(before[0], (3, [1, 3, 4], 9))
        self.assertEqual(grounds.unite(2, 4), [1, 2, 3, 4])

    def test_told_lists_stay_as_they_were(self):
        grounds = made(ALLOWANCES)
        alone = grounds.together(1)
        both = grounds.unite(1, 2)
        lying = grounds.together(2)
        grounds.unite(1, 3)
        left = grounds.part(2)
        grounds.part(1)
        grounds.add_ground(1)
        self.assertEqual((alone, both, lying, left), ([1], [1, 2], [1, 2], [1, 3]))

    def test_two_objects_stay_apart(self):
        first = made(ALLOWANCES)
        second = Grounds()
        self.assertEqual(second.many(), 0)
        self.assertIs(second.has(1), False)
        self.assertEqual(second.add_ground(7), 1)
        second.add_ground(8)
        first.unite(1, 3)
        self.assertEqual(stand(second), [(7, [1], 7), (8, [2], 8)])
        second.unite(1, 2)
        first.part(1)
        self.assertEqual(stand(first), stand(made(ALLOWANCES)))
        self.assertEqual(stand(second), [(7, [1, 2], 8), (8, [1, 2], 8)])


if __name__ == "__main__":
    unittest.main()
