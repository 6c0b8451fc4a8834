"""Points 13 to 17 and the interface's part on commons: the deeds, and what each refuses."""

import unittest

from earmarks.commons import Commons
from earmarks.deeds import fits
from earmarks.errors import (
    Alone, BadAllowance, BadDeed, BadEar, BadExtra, Bare, Clash, CommonError, Dead, Deepest, HasRight, NoBeast,
    NoGround, NoneFree, NoOwner, NoPlace, NoRight, SameGround, SameOwner, StillThere, Together, Unmarked,
)

GREAT = 10 ** 5000
BARE = (0, 0, 0, 0, 0, 0)
DEEPEST = (9, 9, 9, 9, 9, 9)
A = (3, 0, 0, 0, 0, 0)
B = (0, 0, 0, 0, 4, 0)
C = (0, 5, 0, 0, 0, 0)
AB = (3, 0, 0, 0, 4, 0)
AC = (3, 5, 0, 0, 0, 0)
NO_EARS = ((), (1,), A[:5], A + (0,), (0, 0, 0, 0, 0, 10), (-1, 0, 0, 0, 0, 1), (GREAT, 0, 0, 0, 0, 0))
ABSENT = (0, -1, 99, 999999999, GREAT, -GREAT)
METHODS = {"owner": "new_owner", "ground": "new_ground", "pass": "pass_on", "heir": "new_heir"}


def by_method(commons, deed):
    """Do a deed by its own method."""
    return getattr(commons, METHODS.get(deed[0], deed[0]))(*deed[1:])


def made(*deeds):
    commons = Commons()
    for deed in deeds:
        by_method(commons, deed)
    return commons


def peopled():
    """The common of most tests.

    Owners 1, 2 and 3 are there, 4 is gone, 5 has no right anywhere. Ground 1 has room 1, ground 2 room 2,
    and at ground 3 nobody has a right. Beasts: 1 is cut, of owner 1 at ground 1; 2 is not cut, of the same;
    3 was cut and is dead; 4 was never cut and is dead; 5 is cut, of owner 2 at ground 1; 6 is a calf of 1.
    """
    return made(
        ("owner",), ("owner",), ("owner",), ("owner",), ("owner",), ("pass", 4, 3),
        ("ground", 1), ("ground", 2), ("ground", 0),
        ("enrol", 1, 1, A), ("enrol", 2, 1, B), ("enrol", 1, 2, A), ("enrol", 3, 1, C),
        ("bring", 1, 1, BARE), ("bring", 1, 1, BARE), ("bring", 1, 1, BARE), ("bring", 1, 1, BARE),
        ("bring", 2, 1, BARE), ("cut", 1), ("cut", 3), ("cut", 5), ("die", 3), ("die", 4), ("bear", 1),
    )


def stand(commons, beast):
    return commons.look()[3][beast - 1]


class Deeds(unittest.TestCase):
    """What the tests of deeds have in common."""

    def refuse(self, commons, refusal, *deed):
        """The deed is refused so, by its method and as a tuple, and nothing is changed."""
        before = commons.look()
        with self.assertRaises(CommonError) as caught:
            by_method(commons, deed)
        self.assertIs(caught.exception.__class__, refusal)
        self.assertEqual(commons.look(), before)
        with self.assertRaises(CommonError) as again:
            commons.do(deed)
        self.assertIs(again.exception.__class__, refusal if fits(deed) else BadDeed)
        self.assertEqual(commons.look(), before)
        return caught.exception

    def clash(self, commons, ones, others, ear, *deed):
        told = self.refuse(commons, Clash, *deed)
        self.assertEqual((told.ones, told.others, told.ear), (ones, others, ear))

    def absent_beasts(self, *deed, behind=()):
        commons = peopled()
        for beast in ABSENT + (7,):
            self.refuse(commons, NoBeast, *deed, beast, *behind)


class NewOwnerTest(Deeds):
    def test_numbers_rise_from_1(self):
        commons = Commons()
        self.assertEqual([commons.new_owner() for at in range(12)], list(range(1, 13)))
        self.assertEqual(commons.owners(), list(range(1, 13)))

    def test_a_gone_number_is_never_given_anew(self):
        commons = made(("owner",), ("owner",), ("owner",), ("pass", 3, 1), ("pass", 1, 2))
        self.assertEqual(commons.owners(), [2])
        self.assertEqual(commons.new_owner(), 4)
        self.assertEqual(commons.owners(), [2, 4])


class NewGroundTest(Deeds):
    def test_every_allowance(self):
        commons = Commons()
        self.assertEqual([commons.new_ground(allowance) for allowance in range(10)], list(range(1, 11)))
        self.assertEqual(commons.look()[1], [(at, (at + 1,)) for at in range(10)])

    def test_bad_allowances(self):
        for allowance in (-1, 10, 11, 99, GREAT, -GREAT):
            commons = made(("ground", 5))
            self.refuse(commons, BadAllowance, "ground", allowance)
            self.assertEqual(commons.new_ground(5), 2)


class EnrolTest(Deeds):
    def test_answers_none_and_stands_behind_the_others(self):
        commons = peopled()
        before = commons.look()[2]
        self.assertIsNone(commons.enrol(3, 2, C))
        self.assertIsNone(commons.enrol(3, 2, B))
        self.assertEqual(commons.look()[2], before + [(3, 2, C), (3, 2, B)])
        self.assertEqual(commons.marks(3, 2), [C, B])

    def test_one_mark_at_several_grounds(self):
        commons = made(("owner",), ("ground", 3), ("ground", 3), ("unite", 1, 2), ("enrol", 1, 1, A))
        self.assertIsNone(commons.enrol(1, 2, A))
        self.assertEqual(commons.standing(1), [(1, A)])

    def test_no_owner(self):
        commons = peopled()
        for owner in ABSENT + (4, 6):
            self.refuse(commons, NoOwner, "enrol", owner, 1, C)

    def test_no_ground(self):
        commons = peopled()
        for ground in ABSENT + (4,):
            self.refuse(commons, NoGround, "enrol", 1, ground, C)

    def test_bad_ear(self):
        commons = peopled()
        for mark in NO_EARS:
            self.refuse(commons, BadEar, "enrol", 1, 1, mark)

    def test_bare(self):
        self.refuse(peopled(), Bare, "enrol", 1, 3, BARE)

    def test_has_right(self):
        self.refuse(peopled(), HasRight, "enrol", 1, 1, A)
        self.refuse(peopled(), HasRight, "enrol", 1, 2, A)

    def test_order(self):
        commons = peopled()
        self.refuse(commons, NoOwner, "enrol", 4, 9, ())
        self.refuse(commons, NoOwner, "enrol", 9, 1, BARE)
        self.refuse(commons, NoOwner, "enrol", 9, 1, A)
        self.refuse(commons, NoGround, "enrol", 1, 9, ())
        self.refuse(commons, NoGround, "enrol", 1, 9, BARE)
        self.refuse(commons, BadEar, "enrol", 1, 1, (0, 0, 0, 0, 0))
        near = made(("owner",), ("owner",), ("ground", 1), ("enrol", 1, 1, (1, 0, 0, 0, 0, 0)))
        self.refuse(near, Bare, "enrol", 2, 1, BARE)

    def test_clash_just_within_the_room(self):
        for room in range(10):
            commons = made(("owner",), ("owner",), ("ground", room), ("enrol", 1, 1, DEEPEST))
            near, far = (9 - room, 9, 9, 9, 9, 9), (9 - room, 9, 9, 8, 9, 9)
            self.clash(commons, (2, near), (1, DEEPEST), DEEPEST, "enrol", 2, 1, near)
            self.assertIsNone(commons.enrol(2, 1, far))

    def test_clash_tells_the_least_row(self):
        commons = made(("owner",), ("owner",), ("owner",), ("ground", 2), ("enrol", 2, 1, (5, 0, 0, 0, 0, 0)),
                       ("enrol", 2, 1, (4, 2, 0, 0, 0, 0)), ("enrol", 1, 1, (5, 4, 0, 0, 0, 0)))
        asked = (5, 2, 0, 0, 0, 0)
        self.clash(commons, (3, asked), (1, (5, 4, 0, 0, 0, 0)), (5, 4, 0, 0, 0, 0), "enrol", 3, 1, asked)
        self.clash(commons, (1, asked), (2, (4, 2, 0, 0, 0, 0)), asked, "enrol", 1, 1, asked)
        self.assertIsNone(commons.enrol(2, 1, (6, 0, 0, 0, 0, 0)))

    def test_own_marks_and_beasts_bar_nothing(self):
        commons = peopled()
        self.assertIsNone(commons.enrol(1, 1, (4, 0, 0, 0, 0, 0)))
        self.assertIsNone(commons.enrol(1, 1, (2, 0, 0, 0, 0, 0)))
        self.assertEqual(commons.marks(1, 1), [A, (4, 0, 0, 0, 0, 0), (2, 0, 0, 0, 0, 0)])

    def test_a_beast_s_due_ear_bars_and_its_torn_ear_does_not(self):
        commons = made(("owner",), ("owner",), ("ground", 0), ("enrol", 1, 1, A), ("bring", 1, 1, C), ("cut", 1),
                       ("tear", 1, 5))
        self.clash(commons, (2, AC), (1, AC), AC, "enrol", 2, 1, AC)
        self.assertIsNone(commons.enrol(2, 1, (3, 5, 0, 0, 0, 1)))

    def test_a_beast_that_was_never_cut_bars_nothing(self):
        commons = made(("owner",), ("owner",), ("ground", 0), ("enrol", 1, 1, A), ("bring", 1, 1, C))
        self.assertIsNone(commons.enrol(2, 1, C))

    def test_a_dead_beast_bars_nothing(self):
        commons = made(("owner",), ("owner",), ("ground", 0), ("enrol", 1, 1, A), ("bring", 1, 1, C), ("cut", 1),
                       ("die", 1))
        self.assertIsNone(commons.enrol(2, 1, AC))

    def test_a_right_at_a_ground_that_lies_together_bars(self):
        commons = made(("owner",), ("owner",), ("ground", 0), ("ground", 1), ("ground", 9), ("unite", 1, 2),
                       ("enrol", 1, 1, A))
        asked = (3, 0, 0, 0, 0, 1)
        self.clash(commons, (2, asked), (1, A), asked, "enrol", 2, 2, asked)
        self.clash(commons, (2, asked), (1, A), asked, "enrol", 2, 1, asked)
        self.assertIsNone(commons.enrol(2, 3, asked))
        by_method(commons, ("part", 2))
        self.assertIsNone(commons.enrol(2, 1, asked))


class LeaveTest(Deeds):
    def test_answers_the_marks_as_they_came(self):
        commons = made(("owner",), ("ground", 1), ("ground", 1), ("enrol", 1, 1, B), ("enrol", 1, 2, A),
                       ("enrol", 1, 1, A), ("enrol", 1, 1, C))
        self.assertEqual(commons.leave(1, 1), [B, A, C])
        self.assertEqual(commons.look()[2], [(1, 2, A)])
        self.refuse(commons, NoRight, "leave", 1, 1)

    def test_the_rights_of_others_stay(self):
        commons = peopled()
        self.assertEqual(commons.leave(3, 1), [C])
        self.assertEqual(commons.look()[2], [(1, 1, A), (2, 1, B), (1, 2, A)])

    def test_refusals_and_their_order(self):
        commons = peopled()
        for owner in ABSENT + (4, 6):
            self.refuse(commons, NoOwner, "leave", owner, 9)
            self.refuse(commons, NoOwner, "leave", owner, 1)
        for ground in ABSENT + (4,):
            self.refuse(commons, NoGround, "leave", 1, ground)
        self.refuse(commons, NoRight, "leave", 1, 3)
        self.refuse(commons, NoRight, "leave", 5, 1)

    def test_still_there_by_a_beast_cut_or_not(self):
        commons = peopled()
        self.refuse(commons, StillThere, "leave", 1, 1)
        self.refuse(commons, StillThere, "leave", 2, 1)
        commons.die(1)
        self.refuse(commons, StillThere, "leave", 1, 1)
        commons.die(2)
        self.refuse(commons, StillThere, "leave", 1, 1)
        commons.die(6)
        self.assertEqual(commons.leave(1, 1), [A])

    def test_only_the_very_ground_counts(self):
        commons = made(("owner",), ("ground", 1), ("ground", 1), ("enrol", 1, 1, A), ("enrol", 1, 2, A),
                       ("bring", 1, 1, BARE), ("unite", 1, 2))
        self.refuse(commons, StillThere, "leave", 1, 1)
        self.assertEqual(commons.leave(1, 2), [A])

    def test_the_next_mark_counts_behind_a_return(self):
        commons = made(("owner",), ("ground", 1), ("enrol", 1, 1, A), ("leave", 1, 1), ("enrol", 1, 1, B),
                       ("enrol", 1, 1, A), ("bring", 1, 1, BARE))
        self.assertEqual(commons.cut(1), B)


class BringTest(Deeds):
    def test_numbers_and_stand(self):
        commons = made(("owner",), ("ground", 1), ("enrol", 1, 1, A))
        self.assertEqual([commons.bring(1, 1, ear) for ear in (BARE, C, DEEPEST)], [1, 2, 3])
        self.assertEqual(commons.look()[3], [
            (1, 1, None, ear, True, 0, (("brought", 1, 1, ear),)) for ear in (BARE, C, DEEPEST)
        ])

    def test_an_ear_that_is_another_s_is_let_by(self):
        commons = peopled()
        self.assertEqual(commons.bring(1, 1, B), 7)
        self.assertEqual(commons.standing(1), [(1, A), (2, B), (3, C)])

    def test_refusals_and_their_order(self):
        commons = peopled()
        for owner in ABSENT + (4, 6):
            self.refuse(commons, NoOwner, "bring", owner, 9, ())
            self.refuse(commons, NoOwner, "bring", owner, 1, BARE)
        for ground in ABSENT + (4,):
            self.refuse(commons, NoGround, "bring", 1, ground, ())
            self.refuse(commons, NoGround, "bring", 1, ground, BARE)
        for ear in NO_EARS:
            self.refuse(commons, BadEar, "bring", 1, 3, ear)
            self.refuse(commons, BadEar, "bring", 1, 1, ear)
        self.refuse(commons, NoRight, "bring", 1, 3, BARE)
        self.refuse(commons, NoRight, "bring", 5, 1, BARE)

    def test_a_right_at_a_ground_that_lies_together_is_no_right(self):
        commons = made(("owner",), ("ground", 1), ("ground", 1), ("enrol", 1, 1, A), ("unite", 1, 2))
        self.refuse(commons, NoRight, "bring", 1, 2, BARE)


class BearTest(Deeds):
    def test_a_calf(self):
        commons = made(("owner",), ("owner",), ("ground", 1), ("ground", 1), ("enrol", 2, 2, A), ("bring", 2, 2, C),
                       ("cut", 1), ("tear", 1, 0))
        self.assertEqual(commons.bear(1), 2)
        self.assertEqual(commons.bear(1), 3)
        calf = (2, 2, None, BARE, True, 1, (("born", 1, 2, 2),))
        self.assertEqual(commons.look()[3][1:], [calf, calf])
        self.assertEqual(len(commons.history(1)), 3)

    def test_refusals(self):
        self.absent_beasts("bear")
        commons = peopled()
        self.refuse(commons, Dead, "bear", 3)
        self.refuse(commons, Dead, "bear", 4)
        self.refuse(commons, Unmarked, "bear", 2)
        self.refuse(commons, Unmarked, "bear", 6)

    def test_a_calf_that_was_cut_bears(self):
        commons = peopled()
        commons.cut(6)
        self.assertEqual(commons.bear(6), 7)
        self.assertEqual(stand(commons, 7), (1, 1, None, BARE, True, 6, (("born", 6, 1, 1),)))


class CutTest(Deeds):
    def test_the_joint_ear_is_both_ears(self):
        commons = made(("owner",), ("ground", 1), ("enrol", 1, 1, A), ("bring", 1, 1, (5, 1, 0, 0, 0, 0)))
        self.assertEqual(commons.cut(1), (5, 1, 0, 0, 0, 0))
        commons = made(("owner",), ("ground", 1), ("enrol", 1, 1, A), ("bring", 1, 1, (1, 1, 0, 0, 0, 0)))
        due = (3, 1, 0, 0, 0, 0)
        self.assertEqual(commons.cut(1), due)
        story = (("brought", 1, 1, (1, 1, 0, 0, 0, 0)), ("cut", due))
        self.assertEqual(stand(commons, 1), (1, 1, due, due, True, 0, story))

    def test_any_many_times(self):
        commons = peopled()
        self.assertEqual(commons.cut(1), A)
        commons.tear(1, 0)
        self.assertEqual(stand(commons, 1)[2:4], (A, (4, 0, 0, 0, 0, 0)))
        self.assertEqual(commons.cut(1), (4, 0, 0, 0, 0, 0))
        self.assertEqual(stand(commons, 1)[2:4], ((4, 0, 0, 0, 0, 0), (4, 0, 0, 0, 0, 0)))
        self.assertIn((1, (4, 0, 0, 0, 0, 0)), commons.standing(1))

    def test_the_first_mark_counts(self):
        commons = made(("owner",), ("ground", 1), ("ground", 1), ("enrol", 1, 2, B), ("enrol", 1, 1, C),
                       ("enrol", 1, 1, A), ("bring", 1, 1, BARE))
        self.assertEqual(commons.cut(1), C)

    def test_refusals(self):
        self.absent_beasts("cut")
        commons = peopled()
        self.refuse(commons, Dead, "cut", 3)
        self.refuse(commons, Dead, "cut", 4)

    def test_clash_with_a_right(self):
        commons = made(("owner",), ("owner",), ("ground", 1), ("enrol", 1, 1, A), ("enrol", 2, 1, AB),
                       ("bring", 1, 1, (0, 0, 0, 0, 3, 0)), ("bring", 1, 1, (0, 0, 0, 0, 2, 0)))
        near = (3, 0, 0, 0, 3, 0)
        self.clash(commons, (1, near), (2, AB), AB, "cut", 1)
        self.assertEqual(commons.cut(2), (3, 0, 0, 0, 2, 0))

    def test_clash_with_a_beast_s_due_ear_and_not_with_its_own(self):
        commons = made(("owner",), ("owner",), ("ground", 0), ("enrol", 1, 1, A), ("enrol", 2, 1, B),
                       ("bring", 2, 1, A), ("bring", 1, 1, B), ("cut", 1))
        self.clash(commons, (1, AB), (2, AB), AB, "cut", 2)
        self.assertEqual(commons.cut(1), AB)
        commons.tear(1, 5)
        self.assertEqual(commons.cut(1), (3, 0, 0, 0, 4, 1))
        self.assertEqual(commons.cut(2), AB)

    def test_clash_with_what_stands_at_a_ground_that_lies_together(self):
        commons = made(("owner",), ("owner",), ("ground", 0), ("ground", 0), ("enrol", 1, 1, A), ("enrol", 2, 2, AB),
                       ("bring", 1, 1, B))
        commons.unite(1, 2)
        self.clash(commons, (1, AB), (2, AB), AB, "cut", 1)
        commons.part(1)
        self.assertEqual(commons.cut(1), AB)


class TearTest(Deeds):
    def test_each_place(self):
        for place in range(6):
            commons = peopled()
            ear = tuple(depth + int(at == place) for at, depth in enumerate(A))
            self.assertEqual(commons.tear(1, place), ear)
            self.assertEqual(stand(commons, 1)[2:4], (A, ear))
            self.assertEqual(commons.history(1)[-1], ("torn", place))

    def test_a_beast_that_was_never_cut(self):
        commons = peopled()
        self.assertEqual(commons.tear(2, 3), (0, 0, 0, 1, 0, 0))
        self.assertEqual(stand(commons, 2)[2:4], (None, (0, 0, 0, 1, 0, 0)))

    def test_down_to_the_deepest(self):
        commons = peopled()
        for depth in range(1, 10):
            self.assertEqual(commons.tear(2, 2), (0, 0, depth, 0, 0, 0))
        self.refuse(commons, Deepest, "tear", 2, 2)
        self.assertEqual(commons.tear(2, 3), (0, 0, 9, 1, 0, 0))

    def test_it_may_tear_into_another_s_ear(self):
        commons = made(("owner",), ("owner",), ("ground", 0), ("enrol", 1, 1, A), ("enrol", 2, 1, (4, 0, 0, 0, 0, 0)),
                       ("bring", 1, 1, BARE), ("cut", 1))
        self.assertEqual(commons.tear(1, 0), (4, 0, 0, 0, 0, 0))
        self.clash(commons, (1, (4, 0, 0, 0, 0, 0)), (2, (4, 0, 0, 0, 0, 0)), (4, 0, 0, 0, 0, 0), "cut", 1)

    def test_refusals_and_their_order(self):
        self.absent_beasts("tear", behind=(0,))
        self.absent_beasts("tear", behind=(6,))
        commons = peopled()
        for place in (-1, 6, 7, GREAT, -GREAT):
            self.refuse(commons, NoPlace, "tear", 1, place)
            self.refuse(commons, Dead, "tear", 3, place)
        self.refuse(commons, Dead, "tear", 4, 0)
        deepest = made(("owner",), ("ground", 1), ("enrol", 1, 1, DEEPEST), ("bring", 1, 1, DEEPEST))
        for place in range(6):
            self.refuse(deepest, Deepest, "tear", 1, place)
        self.refuse(deepest, NoPlace, "tear", 1, 6)
        self.refuse(deepest, NoPlace, "tear", 1, -1)
        deepest.die(1)
        self.refuse(deepest, Dead, "tear", 1, 0)


class SellTest(Deeds):
    def test_the_buyer_s_mark_is_cut(self):
        commons = peopled()
        commons.tear(1, 5)
        due = (3, 0, 0, 0, 4, 1)
        self.assertEqual(commons.sell(1, 2), due)
        self.assertEqual(stand(commons, 1)[:6], (2, 1, due, due, True, 0))
        self.assertEqual(commons.history(1)[-1], ("sold", 2, due))
        self.assertEqual(commons.standing(1), [(1, A), (2, B), (2, due), (3, C)])

    def test_the_buyer_s_first_mark_at_that_ground(self):
        commons = made(("owner",), ("owner",), ("ground", 0), ("ground", 0), ("enrol", 1, 1, A), ("enrol", 2, 2, B),
                       ("enrol", 2, 1, C), ("enrol", 2, 1, B), ("bring", 1, 1, BARE), ("cut", 1))
        self.assertEqual(commons.sell(1, 2), AC)

    def test_refusals_and_their_order(self):
        self.absent_beasts("sell", behind=(2,))
        self.absent_beasts("sell", behind=(9,))
        commons = peopled()
        self.refuse(commons, Dead, "sell", 3, 9)
        self.refuse(commons, Dead, "sell", 3, 1)
        self.refuse(commons, Dead, "sell", 4, 2)
        self.refuse(commons, Unmarked, "sell", 2, 9)
        self.refuse(commons, Unmarked, "sell", 2, 1)
        self.refuse(commons, Unmarked, "sell", 6, 2)
        for buyer in ABSENT + (4, 6):
            self.refuse(commons, NoOwner, "sell", 1, buyer)
        self.refuse(commons, SameOwner, "sell", 1, 1)
        self.refuse(commons, NoRight, "sell", 1, 5)

    def test_same_owner_ahead_of_clash(self):
        commons = made(("owner",), ("owner",), ("ground", 0), ("enrol", 1, 1, A), ("enrol", 2, 1, (4, 0, 0, 0, 0, 0)),
                       ("bring", 1, 1, BARE), ("cut", 1), ("tear", 1, 0))
        self.refuse(commons, SameOwner, "sell", 1, 1)

    def test_a_right_elsewhere_is_no_right(self):
        commons = made(("owner",), ("owner",), ("ground", 0), ("ground", 0), ("enrol", 1, 1, A), ("enrol", 2, 2, B),
                       ("unite", 1, 2), ("bring", 1, 1, BARE), ("cut", 1))
        self.refuse(commons, NoRight, "sell", 1, 2)

    def test_its_own_due_ear_is_left_out(self):
        commons = made(("owner",), ("owner",), ("ground", 1), ("enrol", 1, 1, A), ("enrol", 2, 1, B),
                       ("bring", 1, 1, (0, 0, 0, 0, 9, 0)), ("cut", 1))
        due = (3, 0, 0, 0, 9, 0)
        self.assertEqual(stand(commons, 1)[2], due)
        self.assertEqual(commons.sell(1, 2), due)
        self.assertEqual(commons.standing(1), [(1, A), (2, B), (2, due)])

    def test_a_like_ear_of_another_beast_of_the_seller_bars(self):
        torn = (0, 0, 0, 0, 9, 0)
        due = (3, 0, 0, 0, 9, 0)
        commons = made(("owner",), ("owner",), ("ground", 1), ("enrol", 1, 1, A), ("enrol", 2, 1, B),
                       ("bring", 1, 1, torn), ("bring", 1, 1, torn), ("cut", 1), ("cut", 2))
        self.clash(commons, (2, due), (1, due), due, "sell", 1, 2)
        self.clash(commons, (2, due), (1, due), due, "sell", 2, 2)
        commons.die(2)
        self.assertEqual(commons.sell(1, 2), due)

    def test_a_like_ear_of_a_right_of_the_seller_bars(self):
        due = (3, 0, 0, 0, 9, 0)
        commons = made(("owner",), ("owner",), ("ground", 1), ("enrol", 1, 1, A), ("enrol", 1, 1, due),
                       ("enrol", 2, 1, B), ("bring", 1, 1, (0, 0, 0, 0, 9, 0)), ("cut", 1))
        self.clash(commons, (2, due), (1, due), due, "sell", 1, 2)

    def test_the_seller_s_own_mark_bars(self):
        commons = made(("owner",), ("owner",), ("ground", 3), ("enrol", 1, 1, A), ("enrol", 2, 1, B),
                       ("bring", 1, 1, BARE), ("cut", 1))
        self.assertEqual(commons.sell(1, 2), AB)
        commons = made(("owner",), ("owner",), ("owner",), ("ground", 3), ("enrol", 1, 1, (8, 0, 0, 0, 0, 0)),
                       ("enrol", 2, 1, (4, 0, 0, 0, 0, 0)), ("bring", 1, 1, BARE), ("cut", 1))
        due = (8, 0, 0, 0, 0, 0)
        self.clash(commons, (2, due), (1, due), due, "sell", 1, 2)

    def test_a_third_owner_s_rows_bar_and_the_buyer_s_do_not(self):
        commons = made(("owner",), ("owner",), ("owner",), ("ground", 0), ("enrol", 1, 1, A), ("enrol", 2, 1, B),
                       ("enrol", 2, 1, AB), ("bring", 1, 1, BARE), ("cut", 1))
        self.assertEqual(commons.sell(1, 2), AB)
        commons = made(("owner",), ("owner",), ("owner",), ("ground", 0), ("enrol", 1, 1, A), ("enrol", 2, 1, B),
                       ("enrol", 3, 1, AB), ("bring", 1, 1, BARE), ("cut", 1))
        self.clash(commons, (2, AB), (3, AB), AB, "sell", 1, 2)

    def test_calves_go_along(self):
        commons = peopled()
        commons.cut(commons.bear(1))
        commons.die(commons.bear(1))
        commons.tear(commons.bear(1), 4)
        before = commons.look()[3]
        self.assertEqual(commons.calves(1), [6, 9])
        self.assertEqual(commons.sell(1, 2), AB)
        after = commons.look()[3]
        self.assertEqual([at + 1 for at in range(9) if before[at] != after[at]], [1, 6, 9])
        self.assertEqual(after[5], (2, 1, None, BARE, True, 1, (("born", 1, 1, 1), ("followed", 2, 1))))
        torn = (0, 0, 0, 0, 1, 0)
        self.assertEqual(after[8], (2, 1, None, torn, True, 1, (("born", 1, 1, 1), ("torn", 4), ("followed", 2, 1))))
        self.assertEqual(commons.calves(1), [6, 9])


class MoveTest(Deeds):
    def test_answers_the_ground_that_it_left(self):
        commons = peopled()
        commons.tear(1, 0)
        self.assertEqual(commons.move(1, 2), 1)
        self.assertEqual(stand(commons, 1)[:5], (1, 2, A, (4, 0, 0, 0, 0, 0), True))
        self.assertEqual(commons.history(1)[-1], ("moved", 2))
        self.assertEqual(commons.move(1, 1), 2)

    def test_refusals_and_their_order(self):
        self.absent_beasts("move", behind=(2,))
        self.absent_beasts("move", behind=(9,))
        commons = peopled()
        self.refuse(commons, Dead, "move", 3, 9)
        self.refuse(commons, Dead, "move", 3, 1)
        self.refuse(commons, Dead, "move", 4, 2)
        self.refuse(commons, Unmarked, "move", 2, 9)
        self.refuse(commons, Unmarked, "move", 2, 1)
        self.refuse(commons, Unmarked, "move", 6, 2)
        for ground in ABSENT + (4,):
            self.refuse(commons, NoGround, "move", 1, ground)
        self.refuse(commons, SameGround, "move", 1, 1)
        self.refuse(commons, NoRight, "move", 1, 3)
        self.refuse(commons, NoRight, "move", 5, 2)

    def test_no_right_ahead_of_clash(self):
        commons = made(("owner",), ("owner",), ("ground", 0), ("ground", 0), ("enrol", 1, 1, A), ("enrol", 2, 2, A),
                       ("bring", 1, 1, BARE), ("cut", 1))
        self.refuse(commons, NoRight, "move", 1, 2)

    def test_clash_by_the_due_ear_at_the_new_ground(self):
        commons = made(("owner",), ("owner",), ("ground", 0), ("ground", 2), ("enrol", 1, 1, A), ("enrol", 1, 2, B),
                       ("enrol", 2, 2, (5, 0, 0, 0, 0, 0)), ("bring", 1, 1, BARE), ("cut", 1))
        both = (5, 0, 0, 0, 0, 0)
        self.clash(commons, (1, A), (2, both), both, "move", 1, 2)
        self.assertEqual(commons.leave(2, 2), [both])
        self.assertIsNone(commons.enrol(2, 2, (6, 0, 0, 0, 0, 0)))
        self.assertEqual(commons.move(1, 2), 1)

    def test_the_ear_as_it_is_does_not_clash(self):
        commons = made(("owner",), ("owner",), ("ground", 0), ("ground", 0), ("enrol", 1, 1, A), ("enrol", 1, 2, A),
                       ("enrol", 2, 2, (4, 0, 0, 0, 0, 0)), ("bring", 1, 1, BARE), ("cut", 1), ("tear", 1, 0))
        self.assertEqual(commons.move(1, 2), 1)

    def test_clash_by_what_lies_together_with_the_new_ground(self):
        commons = made(("owner",), ("owner",), ("ground", 0), ("ground", 0), ("ground", 1), ("enrol", 1, 1, A),
                       ("enrol", 1, 2, C), ("enrol", 2, 3, (4, 0, 0, 0, 0, 0)), ("unite", 2, 3),
                       ("bring", 1, 1, BARE), ("cut", 1))
        both = (4, 0, 0, 0, 0, 0)
        self.clash(commons, (1, A), (2, both), both, "move", 1, 2)
        commons.part(2)
        self.assertEqual(commons.move(1, 2), 1)

    def test_between_grounds_that_lie_together(self):
        commons = made(("owner",), ("ground", 0), ("ground", 5), ("enrol", 1, 1, A), ("enrol", 1, 2, C),
                       ("unite", 1, 2), ("bring", 1, 1, BARE), ("cut", 1))
        self.assertEqual(commons.move(1, 2), 1)
        self.refuse(commons, SameGround, "move", 1, 2)

    def test_calves_go_along(self):
        commons = peopled()
        commons.cut(commons.bear(1))
        commons.die(commons.bear(1))
        before = commons.look()[3]
        self.assertEqual(commons.move(1, 2), 1)
        after = commons.look()[3]
        self.assertEqual([at + 1 for at in range(8) if before[at] != after[at]], [1, 6])
        self.assertEqual(after[5], (1, 2, None, BARE, True, 1, (("born", 1, 1, 1), ("followed", 1, 2))))

    def test_a_refused_move_leads_no_calf(self):
        commons = peopled()
        self.refuse(commons, NoRight, "move", 1, 3)
        self.refuse(commons, SameGround, "move", 1, 1)
        self.assertEqual(commons.history(6), [("born", 1, 1, 1)])


class DieTest(Deeds):
    def test_answers_none_and_the_row_stays(self):
        commons = peopled()
        before = stand(commons, 1)
        self.assertIsNone(commons.die(1))
        self.assertEqual(stand(commons, 1), before[:4] + (False, 0, before[6] + (("died",),)))
        self.assertEqual(commons.look()[3][0][3], A)

    def test_it_is_no_beast_of_gathering_count_or_standing_ears(self):
        commons = made(("owner",), ("ground", 0), ("enrol", 1, 1, A), ("bring", 1, 1, C), ("cut", 1),
                       ("bring", 1, 1, C))
        self.assertEqual(commons.standing(1), [(1, A), (1, AC)])
        commons.die(1)
        self.assertEqual(commons.standing(1), [(1, A)])
        self.assertEqual(commons.gather(1), [(2, C, None)])
        self.assertEqual(commons.tally(), [(1, 1, 0, 1)])
        commons.die(2)
        self.assertEqual((commons.gather(1), commons.tally()), ([], []))

    def test_calves_of_a_dead_mother_stay_and_live(self):
        commons = peopled()
        commons.die(1)
        self.assertEqual(stand(commons, 6)[4], True)
        self.assertEqual(commons.cut(6), A)

    def test_refusals(self):
        self.absent_beasts("die")
        commons = peopled()
        self.refuse(commons, Dead, "die", 3)
        self.refuse(commons, Dead, "die", 4)


class UniteTest(Deeds):
    def test_answers_all_that_lie_together(self):
        commons = made(*[("ground", 0)] * 5)
        self.assertEqual(commons.unite(5, 2), [2, 5])
        self.assertEqual(commons.unite(4, 1), [1, 4])
        self.assertEqual(commons.unite(4, 5), [1, 2, 4, 5])
        self.assertEqual([commons.together(at) for at in (1, 3, 5)], [[1, 2, 4, 5], [3], [1, 2, 4, 5]])

    def test_refusals_and_their_order(self):
        commons = peopled()
        commons.unite(1, 3)
        for ground in ABSENT + (4,):
            self.refuse(commons, NoGround, "unite", ground, 1)
            self.refuse(commons, NoGround, "unite", 1, ground)
            self.refuse(commons, NoGround, "unite", ground, ground)
        for pair in ((1, 1), (2, 2), (3, 3), (1, 3), (3, 1)):
            self.refuse(commons, Together, "unite", *pair)

    def test_clash_between_the_two_by_the_greater_room(self):
        one, other = (3, 0, 0, 0, 0, 0), (6, 0, 0, 0, 0, 0)
        for rooms, clashes in (((0, 2), False), ((0, 3), True), ((3, 0), True), ((2, 2), False), ((9, 9), True)):
            for owners in ((1, 2), (2, 1)):
                commons = made(("owner",), ("owner",), ("ground", rooms[0]), ("ground", rooms[1]),
                               ("enrol", owners[0], 1, one), ("enrol", owners[1], 2, other))
                rows = sorted([(owners[0], one), (owners[1], other)])
                for pair in ((1, 2), (2, 1)):
                    if clashes:
                        self.clash(commons, rows[0], rows[1], other, "unite", *pair)
                if not clashes:
                    self.assertEqual(commons.unite(2, 1), [1, 2])

    def test_clash_within_one_ground_by_the_other_s_room(self):
        commons = made(("owner",), ("owner",), ("ground", 2), ("ground", 3), ("enrol", 1, 1, A),
                       ("enrol", 2, 1, (6, 0, 0, 0, 0, 0)))
        both = (6, 0, 0, 0, 0, 0)
        self.clash(commons, (1, A), (2, both), both, "unite", 1, 2)
        self.clash(commons, (1, A), (2, both), both, "unite", 2, 1)

    def test_clash_tells_the_least_pair(self):
        ears = [(depth, 0, 0, 0, 0, 0) for depth in range(10)]
        commons = made(("owner",), ("owner",), ("owner",), ("ground", 0), ("ground", 2), ("enrol", 3, 1, ears[4]),
                       ("enrol", 2, 1, ears[5]), ("enrol", 2, 1, ears[3]), ("enrol", 1, 2, ears[7]))
        self.clash(commons, (1, ears[7]), (2, ears[5]), ears[7], "unite", 1, 2)
        commons.pass_on(1, 2)
        self.clash(commons, (2, ears[3]), (3, ears[4]), ears[4], "unite", 1, 2)

    def test_clash_tells_the_joint_ear(self):
        one, other = (5, 1, 0, 0, 0, 0), (4, 3, 0, 0, 0, 0)
        commons = made(("owner",), ("owner",), ("ground", 0), ("ground", 2), ("enrol", 1, 1, one),
                       ("enrol", 2, 2, other))
        self.clash(commons, (1, one), (2, other), (5, 3, 0, 0, 0, 0), "unite", 1, 2)

    def test_beasts_clash_by_their_due_ears(self):
        commons = made(("owner",), ("owner",), ("ground", 0), ("ground", 0), ("enrol", 1, 1, A), ("enrol", 2, 2, AB),
                       ("bring", 1, 1, B), ("cut", 1), ("tear", 1, 0))
        self.clash(commons, (1, AB), (2, AB), AB, "unite", 1, 2)
        commons.die(1)
        self.assertEqual(commons.unite(1, 2), [1, 2])

    def test_one_owner_s_rows_never_clash(self):
        commons = made(("owner",), ("ground", 9), ("ground", 9), ("enrol", 1, 1, A), ("enrol", 1, 2, A),
                       ("enrol", 1, 2, B))
        self.assertEqual(commons.unite(1, 2), [1, 2])

    def test_all_that_lie_together_with_either_count(self):
        commons = made(("owner",), ("owner",), ("ground", 0), ("ground", 0), ("ground", 0), ("ground", 0),
                       ("enrol", 1, 1, A), ("enrol", 2, 4, A), ("unite", 1, 2), ("unite", 3, 4))
        self.clash(commons, (1, A), (2, A), A, "unite", 2, 3)
        commons.part(4)
        self.assertEqual(commons.unite(2, 3), [1, 2, 3])


class PartTest(Deeds):
    def test_answers_those_that_it_leaves(self):
        commons = made(("ground", 1), ("ground", 2), ("ground", 3), ("unite", 1, 3), ("unite", 2, 1))
        self.assertEqual(commons.part(3), [1, 2])
        self.assertEqual((commons.room(1), commons.room(3)), (2, 3))
        self.assertEqual(commons.part(1), [2])
        for ground in (1, 2, 3):
            self.assertEqual(commons.together(ground), [ground])
            self.refuse(commons, Alone, "part", ground)

    def test_no_ground(self):
        commons = peopled()
        for ground in ABSENT + (4,):
            self.refuse(commons, NoGround, "part", ground)

    def test_beasts_and_rights_stay(self):
        commons = peopled()
        commons.unite(1, 2)
        before = commons.look()
        commons.part(1)
        after = commons.look()
        self.assertEqual((after[0], after[2], after[3]), (before[0], before[2], before[3]))


class PassOnTest(Deeds):
    def test_all_goes_to_the_heir(self):
        commons = peopled()
        before = commons.look()
        self.assertEqual(commons.pass_on(1, 5), [1, 2, 6])
        owners, grounds, rights, beasts = commons.look()
        self.assertEqual((owners, grounds), ([2, 3, 5], before[1]))
        self.assertEqual(rights, [(5, 1, A), (2, 1, B), (5, 2, A), (3, 1, C)])
        for at in (1, 2, 6):
            old = before[3][at - 1]
            self.assertEqual(beasts[at - 1], (5,) + old[1:6] + (old[6] + (("passed", 5),),))
        for at in (3, 4, 5):
            self.assertEqual(beasts[at - 1], before[3][at - 1])

    def test_an_elder_with_nothing(self):
        commons = made(("owner",), ("owner",))
        self.assertEqual(commons.pass_on(2, 1), [])
        self.assertEqual(commons.owners(), [1])

    def test_each_right_keeps_its_place(self):
        commons = made(("owner",), ("owner",), ("ground", 0), ("ground", 0), ("enrol", 1, 1, B), ("enrol", 1, 2, A),
                       ("enrol", 1, 1, A), ("enrol", 1, 2, C), ("enrol", 2, 2, B))
        commons.pass_on(1, 2)
        self.assertEqual(commons.look()[2], [(2, 1, B), (2, 2, A), (2, 1, A), (2, 2, C), (2, 2, B)])
        again = made(("owner",), ("owner",), ("ground", 0), ("ground", 0), ("enrol", 1, 1, B), ("enrol", 2, 2, B))
        again.pass_on(2, 1)
        self.assertEqual(again.look()[2], [(1, 1, B), (1, 2, B)])

    def test_the_elder_s_mark_may_come_to_be_the_first(self):
        commons = made(("owner",), ("owner",), ("ground", 0), ("enrol", 1, 1, A), ("enrol", 2, 1, B),
                       ("bring", 2, 1, BARE), ("pass", 1, 2))
        self.assertEqual(commons.cut(1), A)

    def test_rows_that_lay_near_are_one_owner_s_then(self):
        commons = made(("owner",), ("owner",), ("ground", 2), ("enrol", 1, 1, A), ("enrol", 2, 1, B), ("pass", 1, 2))
        self.assertIsNone(commons.enrol(2, 1, (4, 0, 0, 0, 0, 0)))

    def test_refusals_and_their_order(self):
        commons = peopled()
        for owner in ABSENT + (4, 6):
            self.refuse(commons, NoOwner, "pass", owner, 1)
            self.refuse(commons, NoOwner, "pass", 1, owner)
            self.refuse(commons, NoOwner, "pass", owner, owner)
        for owner in (1, 2, 3, 5):
            self.refuse(commons, SameOwner, "pass", owner, owner)

    def test_the_gone_are_no_owners(self):
        commons = peopled()
        commons.pass_on(1, 5)
        for deed in (("enrol", 1, 1, A), ("leave", 1, 1), ("bring", 1, 1, BARE), ("sell", 5, 1), ("pass", 1, 2),
                     ("pass", 2, 1), ("heir", 1, 1, 2)):
            self.refuse(commons, NoOwner, *deed)

    def test_a_dead_beast_stays_its_elder_s(self):
        commons = peopled()
        commons.pass_on(1, 5)
        self.assertEqual(stand(commons, 3)[0], 1)


class NewHeirTest(Deeds):
    def test_a_new_owner_with_one_right(self):
        commons = peopled()
        before = commons.look()
        mark = (3, 0, 0, 0, 0, 2)
        self.assertEqual(commons.new_heir(1, 1, 2), (6, mark))
        self.assertEqual(commons.look(), (before[0] + [6], before[1], before[2] + [(6, 1, mark)], before[3]))

    def test_the_elder_s_own_marks_are_taken(self):
        commons = made(("owner",), ("ground", 1), ("enrol", 1, 1, A), ("enrol", 1, 1, (3, 0, 0, 0, 0, 2)))
        self.assertEqual(commons.new_heir(1, 1, 2), (2, (3, 0, 0, 0, 2, 0)))

    def test_due_ears_are_taken(self):
        commons = made(("owner",), ("ground", 1), ("enrol", 1, 1, A), ("bring", 1, 1, (0, 0, 0, 0, 0, 2)), ("cut", 1))
        self.assertEqual(commons.new_heir(1, 1, 2), (2, (3, 0, 0, 0, 2, 0)))

    def test_what_lies_together_is_taken(self):
        commons = made(("owner",), ("ground", 1), ("ground", 2), ("enrol", 1, 1, A), ("enrol", 1, 2, B),
                       ("unite", 1, 2))
        self.refuse(commons, NoneFree, "heir", 1, 1, 2)
        self.assertEqual(commons.new_heir(1, 1, 3), (2, (3, 0, 0, 0, 0, 3)))
        commons.part(1)
        self.assertEqual(commons.new_heir(1, 1, 2), (3, (3, 0, 0, 0, 1, 1)))

    def test_the_first_mark_counts(self):
        commons = made(("owner",), ("ground", 0), ("enrol", 1, 1, C), ("enrol", 1, 1, A))
        self.assertEqual(commons.new_heir(1, 1, 1), (2, (0, 5, 0, 0, 0, 1)))

    def test_none_free(self):
        for extra in (1, 2, 3):
            commons = made(("owner",), ("ground", 9), ("enrol", 1, 1, A))
            self.refuse(commons, NoneFree, "heir", 1, 1, extra)
            full = made(("owner",), ("ground", 0), ("enrol", 1, 1, DEEPEST))
            self.refuse(full, NoneFree, "heir", 1, 1, extra)
            self.assertEqual(full.new_owner(), 2)

    def test_until_none_is_free(self):
        commons = made(("owner",), ("ground", 0), ("enrol", 1, 1, A))
        heirs = [commons.new_heir(1, 1, 1) for at in range(6)]
        self.assertEqual([number for number, mark in heirs], [2, 3, 4, 5, 6, 7])
        self.assertEqual([mark for number, mark in heirs], sorted(mark for number, mark in heirs))
        self.assertEqual(heirs[-1], (7, (4, 0, 0, 0, 0, 0)))
        self.refuse(commons, NoneFree, "heir", 1, 1, 1)

    def test_refusals_and_their_order(self):
        commons = peopled()
        for owner in ABSENT + (4, 6):
            self.refuse(commons, NoOwner, "heir", owner, 9, 9)
            self.refuse(commons, NoOwner, "heir", owner, 1, 2)
        for ground in ABSENT + (4,):
            self.refuse(commons, NoGround, "heir", 1, ground, 0)
            self.refuse(commons, NoGround, "heir", 1, ground, 2)
        for extra in (0, -1, 4, 5, GREAT, -GREAT):
            self.refuse(commons, BadExtra, "heir", 1, 3, extra)
            self.refuse(commons, BadExtra, "heir", 1, 1, extra)
        self.refuse(commons, NoRight, "heir", 1, 3, 1)
        self.refuse(commons, NoRight, "heir", 5, 1, 3)
        self.refuse(commons, NoneFree, "heir", 1, 1, 1)


class DoTest(Deeds):
    def test_answers_as_the_methods_do(self):
        deeds = (
            ("owner",), ("ground", 0), ("ground", 1), ("enrol", 1, 1, A), ("enrol", 1, 2, A), ("bring", 1, 1, BARE),
            ("cut", 1), ("bear", 1), ("tear", 1, 5), ("move", 1, 2), ("move", 1, 1), ("heir", 1, 1, 2), ("sell", 1, 2),
            ("unite", 1, 2), ("part", 1), ("die", 1), ("die", 2), ("leave", 1, 1), ("pass", 1, 2),
        )
        mark = (3, 0, 0, 0, 0, 2)
        answers = [
            1, 1, 2, None, None, 1, A, 2, (3, 0, 0, 0, 0, 1), 1, 2, (2, mark), mark, [1, 2], [2], None, None, [A], [],
        ]
        one, other = Commons(), Commons()
        self.assertEqual([one.do(deed) for deed in deeds], answers)
        self.assertEqual([by_method(other, deed) for deed in deeds], answers)
        self.assertEqual(one.look(), other.look())

    def test_bad_deed_ahead_of_all_else(self):
        commons = peopled()
        for deed in (
            (), ("",), ("Owner",), ("new_owner",), (1,), (A,), ("owner", 1), ("ground",), ("ground", -1),
            ("ground", 10 ** 9), ("ground", "1"), ("enrol", 99, 99, ()), ("enrol", 1, 1, A[:5]), ("enrol", 1, 1, 3),
            ("enrol", 1, 1, (0, 0, 0, 0, 0, 10)), ("bring", 99, 1, A + (0,)), ("tear", 99, 6), ("tear", 1, -1),
            ("tear", 3, 6), ("tear", 1, "lt"), ("cut", A), ("cut", 1, 1), ("pass_on", 1, 2), ("new_heir", 1, 1, 1),
            ("heir", 1, 1), ("heir", 1, 1, -1), ("look",), ("do", ("owner",)[0]),
        ):
            before = commons.look()
            with self.assertRaises(BadDeed):
                commons.do(deed)
            self.assertEqual(commons.look(), before)

    def test_a_deed_that_fits_has_its_own_refusals(self):
        commons = peopled()
        for refusal, deed in (
            (BadAllowance, ("ground", 10)), (BadExtra, ("heir", 1, 1, 4)), (Bare, ("enrol", 1, 1, BARE)),
            (NoOwner, ("enrol", 0, 0, BARE)), (NoBeast, ("tear", 0, 5)), (NoGround, ("part", 999999999)),
        ):
            with self.assertRaises(refusal):
                commons.do(deed)

    def test_by_names(self):
        commons = Commons()
        self.assertEqual(commons.do(deed=("owner",)), 1)
        self.assertEqual(commons.new_ground(allowance=0), 1)
        self.assertEqual(commons.new_ground(allowance=1), 2)
        self.assertIsNone(commons.enrol(owner=1, ground=1, mark=A))
        self.assertIsNone(commons.enrol(owner=1, ground=2, mark=A))
        self.assertEqual(commons.bring(owner=1, ground=1, ear=BARE), 1)
        self.assertEqual(commons.cut(beast=1), A)
        self.assertEqual(commons.bear(mother=1), 2)
        self.assertEqual(commons.tear(beast=1, place=5), (3, 0, 0, 0, 0, 1))
        self.assertEqual(commons.move(beast=1, ground=2), 1)
        self.assertEqual(commons.unite(ground=1, other=2), [1, 2])
        self.assertEqual(commons.part(ground=1), [2])
        self.assertEqual(commons.new_heir(elder=1, ground=2, extra=3), (2, (3, 0, 0, 0, 0, 3)))
        self.assertEqual(commons.sell(beast=1, buyer=2), (3, 0, 0, 0, 0, 3))
        self.assertIsNone(commons.die(beast=1))
        self.assertEqual(commons.leave(owner=1, ground=1), [A])
        self.assertEqual(commons.pass_on(elder=1, heir=2), [])


if __name__ == "__main__":
    unittest.main()
