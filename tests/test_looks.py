"""Points 1, 4 to 11, 14 and 15 and the interface's part on commons: what only looks."""

import unittest

from earmarks.commons import Commons
from earmarks.errors import BadEar, Clash, CommonError, Dead, NoBeast, NoGround, NoOwner, Unmarked
from earmarks.stories import ended, tears_since

GREAT = 10 ** 5000
BARE = (0, 0, 0, 0, 0, 0)
DEEPEST = (9, 9, 9, 9, 9, 9)
A = (3, 0, 0, 0, 0, 0)
A4 = (4, 0, 0, 0, 0, 0)
B = (0, 0, 0, 0, 4, 0)
C = (0, 5, 0, 0, 0, 0)
AB = (3, 0, 0, 0, 4, 0)
AC = (3, 5, 0, 0, 0, 0)
NO_EARS = ((), (1,), A[:5], A + (0,), (0, 0, 0, 0, 0, 10), (-1, 0, 0, 0, 0, 1), (GREAT, 0, 0, 0, 0, 0))
ABSENT = (0, -1, 99, 999999999, GREAT, -GREAT)


def made(*deeds):
    commons = Commons()
    for deed in deeds:
        commons.do(deed)
    return commons


def peopled():
    """Owners 1, 2 and 3 are there, 4 is gone. Grounds 1 (room 1) and 2 (0) lie together, 3 (2) alone.

    Beasts: 1 is cut, of owner 1 at ground 1; 2 is not cut, of owner 2 at ground 2; 3 is cut, of owner 2 at
    ground 2; 4 was cut and is dead; 5 was never cut and is dead; 6 is a calf of 1; 7 is cut, of owner 1 at
    ground 3.
    """
    return made(
        ("owner",), ("owner",), ("owner",), ("owner",), ("pass", 4, 3), ("ground", 1), ("ground", 0), ("ground", 2),
        ("unite", 1, 2), ("enrol", 1, 1, A), ("enrol", 2, 2, B), ("enrol", 1, 3, A), ("enrol", 3, 3, C),
        ("enrol", 1, 1, A4), ("bring", 1, 1, C), ("bring", 2, 2, A), ("bring", 2, 2, BARE), ("bring", 2, 2, DEEPEST),
        ("bring", 1, 1, BARE), ("cut", 1), ("cut", 3), ("cut", 4), ("die", 4), ("die", 5), ("bear", 1),
        ("bring", 1, 3, BARE), ("cut", 7),
    )


def all_told(commons):
    """All lists that a common tells of itself, by the name and parts of the asking."""
    look = commons.look()
    grounds = range(1, len(look[1]) + 1)
    beasts = range(1, len(look[3]) + 1)
    told = {("owners",): commons.owners(), ("tally",): commons.tally()}
    told.update({("look", at): rows for at, rows in enumerate(look)})
    told.update({("together", at): commons.together(at) for at in grounds})
    told.update({("standing", at): commons.standing(at) for at in grounds})
    told.update({("gather", at): commons.gather(at) for at in grounds})
    told.update({("quarrels", at, near): commons.quarrels(at, near) for at in grounds for near in grounds})
    told.update({("marks", owner, at): commons.marks(owner, at) for owner in look[0] for at in grounds})
    told.update({("bars", owner, at): commons.bars(owner, at, A) for owner in look[0] for at in grounds})
    told.update({("calves", at): commons.calves(at) for at in beasts})
    told.update({("history", at): commons.history(at) for at in beasts})
    return told


def copied(told):
    return {name: list(rows) for name, rows in told.items()}


class Looks(unittest.TestCase):
    def refuse(self, refusal, ask, *parts):
        with self.assertRaises(CommonError) as caught:
            ask(*parts)
        self.assertIs(caught.exception.__class__, refusal)


class NothingTest(Looks):
    def test_a_new_common(self):
        commons = Commons()
        self.assertEqual(commons.look(), ([], [], [], []))
        self.assertEqual((commons.owners(), commons.tally()), ([], []))

    def test_it_knows_of_nothing(self):
        commons = Commons()
        for number in ABSENT + (1,):
            for ask in (commons.room, commons.together, commons.standing, commons.gather):
                self.refuse(NoGround, ask, number)
            for ask in (commons.worn, commons.price, commons.calves, commons.history):
                self.refuse(NoBeast, ask, number)
            self.refuse(NoOwner, commons.marks, number, number)
            self.refuse(NoOwner, commons.bars, number, number, ())
            self.refuse(NoGround, commons.whose, number, ())
            self.refuse(NoGround, commons.quarrels, number, number)


class OwnersAndGroundsTest(Looks):
    def test_owners(self):
        self.assertEqual(peopled().owners(), [1, 2, 3])

    def test_room_and_together(self):
        commons = peopled()
        self.assertEqual([commons.room(at) for at in (1, 2, 3)], [1, 1, 2])
        self.assertEqual([commons.together(at) for at in (1, 2, 3)], [[1, 2], [1, 2], [3]])
        for ground in ABSENT + (4,):
            self.refuse(NoGround, commons.room, ground)
            self.refuse(NoGround, commons.together, ground)

    def test_marks(self):
        commons = peopled()
        self.assertEqual(commons.marks(1, 1), [A, A4])
        self.assertEqual((commons.marks(1, 2), commons.marks(1, 3), commons.marks(3, 3)), ([], [A], [C]))
        for owner in ABSENT + (4, 5):
            self.refuse(NoOwner, commons.marks, owner, 1)
            self.refuse(NoOwner, commons.marks, owner, 9)
        for ground in ABSENT + (4,):
            self.refuse(NoGround, commons.marks, 1, ground)


class StandingTest(Looks):
    def test_rights_and_due_ears_of_all_that_lies_together(self):
        commons = peopled()
        rows = [(1, A), (1, AC), (1, A4), (2, B)]
        self.assertEqual(commons.standing(1), rows)
        self.assertEqual(commons.standing(2), rows)
        self.assertEqual(commons.standing(3), [(1, A), (3, C)])

    def test_a_tear_changes_no_row_and_a_cut_does(self):
        commons = peopled()
        before = commons.standing(1)
        commons.tear(1, 0)
        self.assertEqual(commons.standing(1), before)
        commons.cut(1)
        self.assertEqual(commons.standing(1), [(1, A), (1, A4), (1, (4, 5, 0, 0, 0, 0)), (2, B)])

    def test_a_part_takes_its_rows(self):
        commons = peopled()
        commons.part(1)
        self.assertEqual(commons.standing(1), [(1, A), (1, AC), (1, A4)])
        self.assertEqual(commons.standing(2), [(2, B)])

    def test_no_ground(self):
        for ground in ABSENT + (4,):
            self.refuse(NoGround, peopled().standing, ground)


class BarsTest(Looks):
    def test_rows_of_others_within_the_room(self):
        commons = peopled()
        self.assertEqual(commons.bars(2, 1, A), [(1, A), (1, A4)])
        self.assertEqual(commons.bars(3, 2, (5, 0, 0, 0, 0, 0)), [(1, A4)])
        self.assertEqual(commons.bars(3, 2, (6, 0, 0, 0, 0, 0)), [])
        self.assertEqual(commons.bars(1, 1, A), [])
        self.assertEqual(commons.bars(3, 1, AC), [(1, AC)])
        self.assertEqual(commons.bars(2, 3, (5, 0, 0, 0, 0, 0)), [(1, A)])

    def test_a_bare_ear_may_be_asked(self):
        commons = made(("owner",), ("owner",), ("ground", 3), ("enrol", 1, 1, A))
        self.assertEqual(commons.bars(2, 1, BARE), [(1, A)])

    def test_just_what_enrol_refuses(self):
        for depths in range(1000):
            ear = (depths // 100, depths // 10 % 10, 0, 0, depths % 10, 0)
            if ear == BARE:
                continue
            commons = peopled()
            bars = commons.bars(3, 1, ear)
            if not bars:
                self.assertIsNone(commons.enrol(3, 1, ear))
                continue
            with self.assertRaises(Clash) as caught:
                commons.enrol(3, 1, ear)
            self.assertEqual(caught.exception.others, bars[0])

    def test_refusals_and_their_order(self):
        commons = peopled()
        for owner in ABSENT + (4, 5):
            self.refuse(NoOwner, commons.bars, owner, 9, ())
            self.refuse(NoOwner, commons.bars, owner, 1, A)
        for ground in ABSENT + (4,):
            self.refuse(NoGround, commons.bars, 1, ground, ())
            self.refuse(NoGround, commons.bars, 1, ground, A)
        for ear in NO_EARS:
            self.refuse(BadEar, commons.bars, 1, 1, ear)


class QuarrelsTest(Looks):
    def test_pairs_for_which_uniting_is_refused(self):
        commons = made(
            ("owner",), ("owner",), ("owner",), ("ground", 0), ("ground", 2), ("enrol", 3, 1, A4),
            ("enrol", 2, 1, (5, 0, 0, 0, 0, 0)), ("enrol", 2, 1, A), ("enrol", 1, 2, (7, 0, 0, 0, 0, 0)),
        )
        pairs = [
            ((1, (7, 0, 0, 0, 0, 0)), (2, (5, 0, 0, 0, 0, 0))),
            ((2, A), (3, A4)),
            ((2, (5, 0, 0, 0, 0, 0)), (3, A4)),
        ]
        self.assertEqual(commons.quarrels(1, 2), pairs)
        self.assertEqual(commons.quarrels(2, 1), pairs)
        with self.assertRaises(Clash) as caught:
            commons.unite(1, 2)
        self.assertEqual((caught.exception.ones, caught.exception.others), pairs[0])

    def test_none_where_they_lie_together_or_are_one(self):
        commons = peopled()
        for pair in ((1, 1), (2, 2), (3, 3), (1, 2), (2, 1)):
            self.assertEqual(commons.quarrels(*pair), [])

    def test_none_where_uniting_is_let_by(self):
        commons = peopled()
        self.assertEqual(commons.quarrels(2, 3), [])
        self.assertEqual(commons.unite(2, 3), [1, 2, 3])

    def test_no_ground(self):
        commons = peopled()
        for ground in ABSENT + (4,):
            self.refuse(NoGround, commons.quarrels, ground, 1)
            self.refuse(NoGround, commons.quarrels, 1, ground)


class WhoseTest(Looks):
    def test_by_the_standing_ears_and_the_room(self):
        commons = peopled()
        for ear, owners in (
            (A, (1,)), (A4, (1,)), ((5, 0, 0, 0, 0, 0), (1,)), ((6, 0, 0, 0, 0, 0), ()), (BARE, ()), (B, (2,)),
            ((0, 0, 0, 0, 5, 0), (2,)), ((0, 0, 0, 0, 3, 0), ()), (AB, ()), (AC, (1,)), ((3, 6, 0, 0, 0, 0), (1,)),
            ((3, 6, 0, 0, 0, 1), ()), (DEEPEST, ()),
        ):
            self.assertEqual(commons.whose(1, ear), owners)
            self.assertEqual(commons.whose(2, ear), owners)

    def test_refusals_and_their_order(self):
        commons = peopled()
        for ground in ABSENT + (4,):
            self.refuse(NoGround, commons.whose, ground, ())
            self.refuse(NoGround, commons.whose, ground, A)
        for ear in NO_EARS:
            self.refuse(BadEar, commons.whose, 1, ear)


class GatherTest(Looks):
    def test_all_living_beasts_that_graze_together(self):
        commons = peopled()
        rows = [(1, AC, (1,)), (2, A, None), (3, B, (2,)), (6, BARE, None)]
        self.assertEqual(commons.gather(1), rows)
        self.assertEqual(commons.gather(2), rows)
        self.assertEqual(commons.gather(3), [(7, A, (1,))])

    def test_torn_by_the_room_and_by_one_more(self):
        commons = peopled()
        commons.tear(1, 2)
        self.assertEqual(commons.gather(1)[0], (1, (3, 5, 1, 0, 0, 0), (1,)))
        commons.tear(1, 2)
        self.assertEqual(commons.gather(1)[0], (1, (3, 5, 2, 0, 0, 0), ()))

    def test_torn_into_another_s_ear(self):
        commons = made(("owner",), ("owner",), ("ground", 0), ("enrol", 1, 1, A), ("enrol", 2, 1, A4),
                       ("bring", 1, 1, BARE), ("cut", 1), ("tear", 1, 0))
        self.assertEqual(commons.gather(1), [(1, A4, (2,))])

    def test_no_beasts(self):
        self.assertEqual(made(("ground", 0)).gather(1), [])

    def test_no_ground(self):
        for ground in ABSENT + (4,):
            self.refuse(NoGround, peopled().gather, ground)


class BeastTest(Looks):
    def refuse_beasts(self, name):
        commons = peopled()
        ask = getattr(commons, name)
        for beast in ABSENT + (8,):
            self.refuse(NoBeast, ask, beast)
        return commons, ask

    def test_worn(self):
        commons, ask = self.refuse_beasts("worn")
        self.assertEqual([ask(1), ask(3), ask(7)], [0, 0, 0])
        for many in range(1, 7):
            commons.tear(1, many % 6)
            self.assertEqual(ask(1), many)
        commons.cut(1)
        self.assertEqual(ask(1), 0)
        for beast, refusal in ((4, Dead), (5, Dead), (2, Unmarked), (6, Unmarked)):
            self.refuse(refusal, ask, beast)

    def test_price(self):
        commons, ask = self.refuse_beasts("price")
        self.assertIsNone(ask(1))
        self.assertIsNone(ask(7))
        for beast, refusal in ((4, Dead), (5, Dead), (2, Unmarked), (6, Unmarked)):
            self.refuse(refusal, ask, beast)

    def test_price_by_the_ear_as_it_is_where_it_grazes(self):
        commons = made(("owner",), ("owner",), ("owner",), ("ground", 3), ("ground", 0), ("enrol", 1, 1, A),
                       ("enrol", 2, 1, B), ("enrol", 3, 2, AB), ("bring", 1, 1, BARE), ("cut", 1))
        self.assertEqual(commons.price(1), (4, 2, AB))
        commons.tear(1, 4)
        self.assertEqual(commons.price(1), (3, 2, AB))
        commons.tear(1, 5)
        self.assertIsNone(commons.price(1))

    def test_price_of_several_ways(self):
        commons = made(("owner",), ("owner",), ("owner",), ("ground", 3), ("enrol", 1, 1, A), ("enrol", 3, 1, B),
                       ("enrol", 2, 1, C), ("bring", 1, 1, BARE), ("cut", 1))
        self.assertEqual(commons.price(1), (4, 3, AB))

    def test_calves(self):
        commons, ask = self.refuse_beasts("calves")
        self.assertEqual([ask(at) for at in range(1, 8)], [[6], [], [], [], [], [], []])
        for calf in (8, 9, 10):
            self.assertEqual(commons.bear(1), calf)
        self.assertEqual(commons.bear(3), 11)
        commons.cut(9)
        commons.die(8)
        self.assertEqual((ask(1), ask(3)), ([6, 10], [11]))
        commons.die(1)
        self.assertEqual(ask(1), [6, 10])

    def test_history(self):
        commons, ask = self.refuse_beasts("history")
        self.assertEqual(ask(1), [("brought", 1, 1, C), ("cut", AC)])
        self.assertEqual(ask(4), [("brought", 2, 2, DEEPEST), ("cut", DEEPEST), ("died",)])
        self.assertEqual(ask(6), [("born", 1, 1, 1)])

    def test_a_whole_story(self):
        commons = made(("owner",), ("owner",), ("owner",), ("ground", 0), ("ground", 0), ("enrol", 1, 1, A),
                       ("enrol", 1, 2, A), ("enrol", 2, 2, B), ("bring", 1, 1, BARE), ("cut", 1), ("bear", 1))
        for deed in (("tear", 2, 1), ("move", 1, 2), ("sell", 1, 2), ("pass", 2, 3), ("cut", 2), ("tear", 2, 1),
                     ("die", 2), ("die", 1)):
            commons.do(deed)
        due = (0, 1, 0, 0, 4, 0)
        self.assertEqual(commons.history(1), [
            ("brought", 1, 1, BARE), ("cut", A), ("moved", 2), ("sold", 2, AB), ("passed", 3), ("died",),
        ])
        self.assertEqual(commons.history(2), [
            ("born", 1, 1, 1), ("torn", 1), ("followed", 1, 2), ("followed", 2, 2), ("passed", 3), ("cut", due),
            ("torn", 1), ("died",),
        ])
        self.assertEqual(commons.look()[3][1], (
            3, 2, due, (0, 2, 0, 0, 4, 0), False, 1, tuple(commons.history(2)),
        ))
        for row in commons.look()[3]:
            self.assertEqual(ended(list(row[6])), row[:5])
        self.assertEqual((tears_since(commons.history(1)), tears_since(commons.history(2))), (0, 1))


class TallyTest(Looks):
    def test_cut_and_not_cut(self):
        commons = peopled()
        self.assertEqual(commons.tally(), [(1, 1, 1, 1), (1, 3, 1, 0), (2, 2, 1, 1)])
        commons.bear(3)
        commons.cut(2)
        self.assertEqual(commons.tally(), [(1, 1, 1, 1), (1, 3, 1, 0), (2, 2, 2, 1)])
        commons.die(7)
        self.assertEqual(commons.tally(), [(1, 1, 1, 1), (2, 2, 2, 1)])

    def test_rising_by_owner_then_ground(self):
        commons = made(*[("owner",)] * 11, ("ground", 0), ("ground", 0),
                       *[("enrol", owner, ground, (0, owner, 0, 0, 0, 0)) for owner in (9, 2) for ground in (2, 1)],
                       ("enrol", 11, 1, A), ("bring", 11, 1, BARE), ("bring", 9, 2, BARE), ("bring", 9, 1, BARE),
                       ("bring", 2, 2, BARE), ("bring", 9, 2, BARE))
        self.assertEqual(commons.tally(), [(2, 2, 0, 1), (9, 1, 0, 1), (9, 2, 0, 2), (11, 1, 0, 1)])


class LookTest(Looks):
    def test_the_whole_stand(self):
        owners, grounds, rights, beasts = peopled().look()
        self.assertEqual(owners, [1, 2, 3])
        self.assertEqual(grounds, [(1, (1, 2)), (0, (1, 2)), (2, (3,))])
        self.assertEqual(rights, [(1, 1, A), (2, 2, B), (1, 3, A), (3, 3, C), (1, 1, A4)])
        self.assertEqual(beasts, [
            (1, 1, AC, AC, True, 0, (("brought", 1, 1, C), ("cut", AC))),
            (2, 2, None, A, True, 0, (("brought", 2, 2, A),)),
            (2, 2, B, B, True, 0, (("brought", 2, 2, BARE), ("cut", B))),
            (2, 2, DEEPEST, DEEPEST, False, 0, (("brought", 2, 2, DEEPEST), ("cut", DEEPEST), ("died",))),
            (1, 1, None, BARE, False, 0, (("brought", 1, 1, BARE), ("died",))),
            (1, 1, None, BARE, True, 1, (("born", 1, 1, 1),)),
            (1, 3, A, A, True, 0, (("brought", 1, 3, BARE), ("cut", A))),
        ])

    def test_kinds(self):
        look = peopled().look()
        self.assertIsInstance(look, tuple)
        for rows in look:
            self.assertIsInstance(rows, list)
        for row in look[1] + look[2] + look[3]:
            self.assertIsInstance(row, tuple)


class ApartTest(Looks):
    """Point 1: what is told, and two commons."""

    DEEDS = (("owner",), ("ground", 1), ("enrol", 2, 3, (9, 9, 0, 0, 0, 0)), ("cut", 2), ("tear", 1, 5), ("bear", 1),
             ("die", 3), ("part", 1), ("enrol", 1, 2, A), ("move", 1, 2), ("pass", 2, 3), ("heir", 3, 3, 3))

    def test_lists_that_were_told_can_be_emptied(self):
        commons = peopled()
        before = copied(all_told(commons))
        for rows in all_told(commons).values():
            rows.clear()
        self.assertEqual(all_told(commons), before)

    def test_lists_that_were_told_can_be_drawn_on(self):
        commons = peopled()
        before = copied(all_told(commons))
        for rows in all_told(commons).values():
            rows.insert(0, "more")
            rows.append(("died",))
        self.assertEqual(all_told(commons), before)

    def test_what_was_told_stays_behind_later_deeds(self):
        commons = peopled()
        told, kept = [], []
        for deed in self.DEEDS:
            told.append(all_told(commons))
            kept.append(copied(told[-1]))
            commons.do(deed)
            self.assertEqual(told, kept)

    def test_answers_can_be_emptied(self):
        commons = made(("owner",), ("owner",), ("ground", 1), ("ground", 2), ("ground", 3), ("enrol", 1, 1, A),
                       ("enrol", 1, 1, B), ("enrol", 2, 2, C), ("bring", 2, 2, BARE), ("unite", 1, 2))
        for deed in (("unite", 3, 1), ("part", 2), ("leave", 1, 1), ("pass", 2, 1)):
            answer = commons.do(deed)
            before = copied(all_told(commons))
            self.assertNotEqual(answer, [])
            answer.clear()
            self.assertEqual(all_told(commons), before)

    def test_answers_stay_behind_later_deeds(self):
        commons = made(("ground", 1), ("ground", 2), ("ground", 3))
        first = commons.unite(1, 2)
        second = commons.unite(3, 2)
        third = commons.part(1)
        commons.part(2)
        self.assertEqual((first, second, third), ([1, 2], [1, 2, 3], [2, 3]))

    def test_two_commons_stay_apart(self):
        one, other, still = peopled(), peopled(), Commons()
        before = copied(all_told(other))
        for deed in self.DEEDS:
            one.do(deed)
            self.assertEqual(all_told(other), before)
            self.assertEqual(still.look(), ([], [], [], []))
        for deed in self.DEEDS:
            other.do(deed)
        self.assertEqual(all_told(one), all_told(other))

    def test_looking_changes_nothing(self):
        commons = peopled()
        before = commons.look()
        for time in range(3):
            all_told(commons)
            for beast in (1, 3, 7):
                commons.worn(beast)
                commons.price(beast)
            commons.whose(1, A)
        self.assertEqual(commons.look(), before)

    def test_by_names(self):
        commons = peopled()
        self.assertEqual((commons.room(ground=1), commons.together(ground=3)), (1, [3]))
        self.assertEqual(commons.marks(owner=1, ground=3), [A])
        self.assertEqual(commons.standing(ground=3), [(1, A), (3, C)])
        self.assertEqual(commons.bars(owner=2, ground=3, ear=A), [(1, A)])
        self.assertEqual(commons.quarrels(ground=1, other=3), [])
        self.assertEqual(commons.whose(ground=3, ear=A), (1,))
        self.assertEqual(commons.gather(ground=3), [(7, A, (1,))])
        self.assertEqual((commons.worn(beast=1), commons.price(beast=1), commons.calves(beast=1)), (0, None, [6]))
        self.assertEqual(commons.history(beast=6), [("born", 1, 1, 1)])


if __name__ == "__main__":
    unittest.main()
