"""Points 1, 4 and 5 and the interface's part on gaps."""

import itertools
import unittest

from earmarks.gaps import apart, common, deeper, joint, lacks, meet, torn

BARE = (0, 0, 0, 0, 0, 0)
DEEPEST = (9, 9, 9, 9, 9, 9)
LEFT = (3, 1, 0, 0, 0, 0)
RIGHT = (1, 2, 0, 0, 4, 0)

# Ears far off from one another, of all depths.
FAR = [tuple(int(figure) for figure in str(told).rjust(6, "0")) for told in range(0, 1000000, 9973)]
# Ears near one another, some at the greatest depth.
NEAR = list(itertools.product((0, 1), (4, 6), (9,), (0, 2), (7, 8), (3,)))


def all_pairs():
    return itertools.chain(itertools.product(FAR, repeat=2), itertools.product(NEAR, repeat=2))


def torn_once(ear):
    """All ears of one tear, by point 5's own words."""
    return [ear[:at] + (ear[at] + 1,) + ear[at + 1:] for at in range(6) if ear[at] < 9]


def torn_step_by_step(ear, many):
    reached = {ear}
    for step in range(many):
        reached = reached | {further for one in reached for further in torn_once(one)}
    return sorted(reached)


class DeeperTest(unittest.TestCase):
    def test_ordinary(self):
        self.assertIs(deeper((1, 0, 0, 0, 0, 0), (1, 0, 0, 2, 0, 0)), True)
        self.assertIs(deeper((1, 0, 0, 2, 0, 0), (1, 0, 0, 0, 0, 0)), False)

    def test_neither_is(self):
        self.assertIs(deeper(LEFT, RIGHT), False)
        self.assertIs(deeper(RIGHT, LEFT), False)

    def test_one_place_is_enough_to_break_it(self):
        for at in range(6):
            shallow = tuple(5 if place == at else 0 for place in range(6))
            deep = tuple(4 if place == at else 9 for place in range(6))
            self.assertIs(deeper(shallow, deep), False)

    def test_edges(self):
        for ear in FAR:
            self.assertIs(deeper(ear, ear), True)
            self.assertIs(deeper(BARE, ear), True)
            self.assertIs(deeper(ear, DEEPEST), True)
            self.assertIs(deeper(ear, BARE), ear == BARE)
            self.assertIs(deeper(DEEPEST, ear), ear == DEEPEST)

    def test_by_name(self):
        self.assertIs(deeper(deep=DEEPEST, shallow=BARE), True)

    def test_many_pairs(self):
        for one, other in all_pairs():
            told = True
            for at in range(6):
                if other[at] < one[at]:
                    told = False
            self.assertIs(deeper(one, other), told)


class JointAndCommonTest(unittest.TestCase):
    def test_ordinary(self):
        self.assertEqual(joint(LEFT, RIGHT), (3, 2, 0, 0, 4, 0))
        self.assertEqual(common(LEFT, RIGHT), (1, 1, 0, 0, 0, 0))

    def test_both_ways_round(self):
        for one, other in all_pairs():
            self.assertEqual(joint(one, other), joint(other, one))
            self.assertEqual(common(one, other), common(other, one))

    def test_an_ear_with_itself_and_at_the_edges(self):
        for ear in FAR:
            self.assertEqual(joint(ear, ear), ear)
            self.assertEqual(common(ear, ear), ear)
            self.assertEqual(joint(ear, BARE), ear)
            self.assertEqual(common(ear, BARE), BARE)
            self.assertEqual(joint(ear, DEEPEST), DEEPEST)
            self.assertEqual(common(ear, DEEPEST), ear)

    def test_many_pairs(self):
        for one, other in all_pairs():
            above = joint(one, other)
            below = common(one, other)
            self.assertIs(above.__class__, tuple)
            self.assertIs(below.__class__, tuple)
            self.assertEqual((len(above), len(below)), (6, 6))
            for at in range(6):
                self.assertEqual((below[at], above[at]), tuple(sorted((one[at], other[at]))))


class LacksTest(unittest.TestCase):
    def test_ordinary(self):
        self.assertEqual(lacks(LEFT, RIGHT), 5)
        self.assertEqual(lacks(RIGHT, LEFT), 2)

    def test_edges(self):
        self.assertEqual(lacks(BARE, DEEPEST), 54)
        self.assertEqual(lacks(DEEPEST, BARE), 0)
        for ear in FAR:
            self.assertEqual(lacks(ear, ear), 0)
            self.assertEqual(lacks(BARE, ear), sum(ear))
            self.assertEqual(lacks(ear, BARE), 0)

    def test_many_pairs(self):
        for one, other in all_pairs():
            missing = 0
            for at in range(6):
                if other[at] > one[at]:
                    missing += other[at] - one[at]
            self.assertEqual(lacks(one, other), missing)


class ApartTest(unittest.TestCase):
    def test_ordinary(self):
        self.assertEqual(apart(LEFT, RIGHT), 5)
        self.assertEqual(apart(RIGHT, LEFT), 5)

    def test_edges(self):
        self.assertEqual(apart(BARE, DEEPEST), 54)
        self.assertEqual(apart(DEEPEST, BARE), 54)
        self.assertEqual(apart((9, 9, 9, 0, 0, 0), (0, 0, 0, 9, 9, 9)), 27)
        for ear in FAR:
            self.assertEqual(apart(ear, ear), 0)

    def test_many_pairs(self):
        for one, other in all_pairs():
            gaps = [here - there for here, there in zip(one, other)]
            ahead = sum(gap for gap in gaps if gap > 0)
            behind = -sum(gap for gap in gaps if gap < 0)
            self.assertEqual(apart(one, other), ahead if ahead > behind else behind)


class MeetTest(unittest.TestCase):
    def test_ordinary(self):
        for room in range(61):
            self.assertIs(meet(LEFT, RIGHT, room), room >= 5)
            self.assertIs(meet(RIGHT, LEFT, room), room >= 5)

    def test_no_room(self):
        for one, other in itertools.product(NEAR, repeat=2):
            self.assertIs(meet(one, other, 0), one == other)

    def test_all_the_room(self):
        for one, other in all_pairs():
            self.assertIs(meet(one, other, 60), True)

    def test_far_off(self):
        self.assertIs(meet(BARE, DEEPEST, 53), False)
        self.assertIs(meet(DEEPEST, BARE, 53), False)
        self.assertIs(meet(BARE, DEEPEST, 54), True)
        self.assertIs(meet(DEEPEST, BARE, 54), True)

    def test_just_where_some_ear_can_come_of_both(self):
        for room in range(4):
            reached = {ear: torn_step_by_step(ear, room) for ear in NEAR}
            for one, other in itertools.product(NEAR, repeat=2):
                shared = sorted(set(reached[one]) & set(reached[other]))
                self.assertIs(meet(one, other, room), shared != [])
                if shared:
                    self.assertEqual(joint(one, other), shared[0])
                    for ear in shared:
                        self.assertIs(deeper(joint(one, other), ear), True)


class TornTest(unittest.TestCase):
    EARS = [BARE, DEEPEST, LEFT, RIGHT, (8, 8, 8, 8, 8, 8), (9, 8, 9, 8, 9, 8), (8, 9, 9, 9, 9, 9),
            (9, 9, 9, 9, 9, 7), (0, 9, 0, 9, 0, 9), (7, 6, 5, 4, 3, 2)] + FAR[::10]

    def test_no_tear(self):
        for ear in self.EARS:
            self.assertEqual(torn(ear, 0), [ear])

    def test_one_tear(self):
        self.assertEqual(torn(BARE, 1), [
            (0, 0, 0, 0, 0, 0), (0, 0, 0, 0, 0, 1), (0, 0, 0, 0, 1, 0), (0, 0, 0, 1, 0, 0),
            (0, 0, 1, 0, 0, 0), (0, 1, 0, 0, 0, 0), (1, 0, 0, 0, 0, 0),
        ])

    def test_how_many_come_of_an_ear_without_cuts(self):
        self.assertEqual([len(torn(BARE, many)) for many in range(4)], [1, 7, 28, 84])

    def test_no_depth_above_the_greatest(self):
        for many in range(4):
            self.assertEqual(torn(DEEPEST, many), [DEEPEST])
        self.assertEqual(torn((9, 9, 9, 9, 9, 8), 3), [(9, 9, 9, 9, 9, 8), DEEPEST])
        self.assertEqual(torn((9, 9, 8, 9, 9, 8), 2), [
            (9, 9, 8, 9, 9, 8), (9, 9, 8, 9, 9, 9), (9, 9, 9, 9, 9, 8), DEEPEST,
        ])

    def test_step_by_step(self):
        for ear in self.EARS:
            for many in range(4):
                with self.subTest(ear=ear, many=many):
                    self.assertEqual(torn(ear, many), torn_step_by_step(ear, many))

    def test_strictly_rising(self):
        for ear in self.EARS:
            for many in range(4):
                told = torn(ear, many)
                self.assertIs(told.__class__, list)
                for lesser, greater in zip(told, told[1:]):
                    self.assertLess(lesser, greater)

    def test_all_are_tuples_of_six(self):
        for ear in torn(LEFT, 3):
            self.assertIs(ear.__class__, tuple)
            self.assertEqual(len(ear), 6)

    def test_the_told_list_is_its_askers_own(self):
        for many in range(4):
            told = torn(LEFT, many)
            kept = list(told)
            again = torn(LEFT, many)
            told.reverse()
            told.append(BARE)
            told[0] = DEEPEST
            self.assertEqual(again, kept)
            again.clear()
            self.assertEqual(torn(LEFT, many), kept)


if __name__ == "__main__":
    unittest.main()
