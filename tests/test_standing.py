"""Points 1, 8, 9, 10, 11 and 17 and the interface's part on standing ears."""

import itertools
import unittest

from earmarks.errors import Clash
from earmarks.standing import ask_room, barring, clashing, owners_of, passing, tidied

GREAT = 10 ** 5000
BARE = (0, 0, 0, 0, 0, 0)
DEEPEST = (9, 9, 9, 9, 9, 9)
# The ear A lies apart from B by 2 and from C by 5, and B from C by 4.
A = (2, 0, 0, 0, 0, 0)
B = (1, 2, 0, 0, 0, 0)
C = (2, 4, 0, 0, 0, 1)
# Out of order, one row twice, two owners with an equal ear, an owner with several ears.
ROWS = [(3, C), (1, B), (2, A), (1, A), (2, A), (1, BARE), (3, DEEPEST)]
TIDY = [(1, BARE), (1, B), (1, A), (2, A), (3, C), (3, DEEPEST)]
ROOMS = (0, 1, 2, 3, 4, 5, 7, 53, 54, 60)
EARS = [BARE, DEEPEST, A, B, C, (0, 0, 0, 0, 0, 1), (2, 2, 0, 0, 0, 0), (3, 4, 0, 0, 0, 1), (0, 9, 0, 9, 0, 9)]
OWNERS = (0, 1, 2, 3, 4, GREAT)


def missing(one, other):
    """Point 5's tears that the first lacks of the second."""
    return sum(max(0, there - here) for here, there in zip(one, other))


def touching(one, other, room):
    return missing(one, other) <= room and missing(other, one) <= room


def greater_of(one, other):
    return tuple(max(pair) for pair in zip(one, other))


def turned(rows):
    """The same rows in other orders, and with some of them more often."""
    yield list(rows)
    yield list(reversed(rows))
    yield sorted(rows)
    yield sorted(rows, reverse=True)
    yield list(rows) + list(rows)
    yield [row for row in rows for time in range(3)]
    yield list(rows[1:]) + list(rows[:1]) + list(reversed(rows))


def clash_of(owner, ear, rows, room):
    """What Clash tells of an ear, or None."""
    try:
        return ask_room(owner, ear, rows, room)
    except Clash as clash:
        return (clash.ones, clash.others, clash.ear)


class TidiedTest(unittest.TestCase):
    def test_no_rows(self):
        self.assertEqual(tidied([]), [])

    def test_rising_and_each_once(self):
        for rows in turned(ROWS):
            self.assertEqual(tidied(rows), TIDY)

    def test_every_order(self):
        for rows in itertools.permutations(TIDY):
            self.assertEqual(tidied(list(rows)), TIDY)

    def test_owners_rise_as_numbers(self):
        self.assertEqual(tidied([(GREAT, A), (10, A), (9, A), (9, B)]), [(9, B), (9, A), (10, A), (GREAT, A)])


class BarringTest(unittest.TestCase):
    def test_no_rows(self):
        for room in ROOMS:
            self.assertEqual(barring(1, A, [], room), [])
            self.assertEqual(barring(0, A, [], room), [])

    def test_equal_ears_of_two_owners(self):
        self.assertEqual(barring(1, A, ROWS, 0), [(2, A)])
        self.assertEqual(barring(2, A, ROWS, 0), [(1, A)])
        self.assertEqual(barring(3, A, ROWS, 0), [(1, A), (2, A)])

    def test_rooms(self):
        self.assertEqual(barring(4, A, ROWS, 1), [(1, A), (2, A)])
        self.assertEqual(barring(4, A, ROWS, 2), [(1, BARE), (1, B), (1, A), (2, A)])
        self.assertEqual(barring(4, A, ROWS, 4), [(1, BARE), (1, B), (1, A), (2, A)])
        self.assertEqual(barring(4, A, ROWS, 5), TIDY[:5])
        self.assertEqual(barring(4, A, ROWS, 51), TIDY[:5])
        self.assertEqual(barring(4, A, ROWS, 52), TIDY)
        self.assertEqual(barring(4, A, ROWS, 60), TIDY)

    def test_what_both_lack_counts(self):
        # One ear is deeper than the other: it lacks nothing, but is lacked of.
        self.assertEqual(barring(1, BARE, [(2, A)], 1), [])
        self.assertEqual(barring(1, A, [(2, BARE)], 1), [])
        self.assertEqual(barring(1, BARE, [(2, A)], 2), [(2, A)])
        self.assertEqual(barring(1, A, [(2, BARE)], 2), [(2, BARE)])

    def test_ones_own_rows_never_bar(self):
        for room in ROOMS:
            self.assertEqual(barring(1, A, [(1, A), (1, B), (1, BARE)], room), [])

    def test_nobody(self):
        self.assertEqual(barring(0, A, ROWS, 0), [(1, A), (2, A)])
        self.assertEqual(barring(0, A, ROWS, 60), TIDY)

    def test_by_name(self):
        self.assertEqual(barring(room=0, rows=ROWS, ear=A, owner=1), [(2, A)])

    def test_by_the_points_words(self):
        for owner, ear, room in itertools.product(OWNERS, EARS, ROOMS):
            told = [row for row in TIDY if row[0] != owner and touching(ear, row[1], room)]
            for rows in turned(ROWS):
                self.assertEqual(barring(owner, ear, rows, room), told)


class AskRoomTest(unittest.TestCase):
    def test_not_barred(self):
        self.assertIsNone(ask_room(1, A, [], 60))
        self.assertIsNone(ask_room(0, A, [], 60))
        self.assertIsNone(ask_room(1, A, [(1, A)], 60))
        self.assertIsNone(ask_room(2, A, [(1, BARE)], 1))

    def test_the_least_row_that_bars(self):
        self.assertEqual(clash_of(4, A, ROWS, 2), ((4, A), (1, BARE), A))
        self.assertEqual(clash_of(1, A, ROWS, 60), ((1, A), (2, A), A))
        self.assertEqual(clash_of(2, B, ROWS, 2), ((2, B), (1, B), B))
        self.assertEqual(clash_of(1, B, ROWS, 2), ((1, B), (2, A), (2, 2, 0, 0, 0, 0)))

    def test_nobody(self):
        self.assertEqual(clash_of(0, A, ROWS, 0), ((0, A), (1, A), A))

    def test_the_fields(self):
        with self.assertRaises(Clash) as caught:
            ask_room(owner=5, ear=B, rows=[(GREAT, A)], room=2)
        clash = caught.exception
        self.assertEqual(clash.ones, (5, B))
        self.assertEqual(clash.others, (GREAT, A))
        self.assertEqual(clash.ear, (2, 2, 0, 0, 0, 0))
        for told in (clash.ones, clash.others, clash.ear):
            self.assertIs(told.__class__, tuple)

    def test_by_the_points_words(self):
        for owner, ear, room in itertools.product(OWNERS, EARS, ROOMS):
            bars = [row for row in TIDY if row[0] != owner and touching(ear, row[1], room)]
            told = ((owner, ear), bars[0], greater_of(ear, bars[0][1])) if bars else None
            for rows in turned(ROWS):
                self.assertEqual(clash_of(owner, ear, rows, room), told)


class ClashingTest(unittest.TestCase):
    def test_no_rows_and_one_row(self):
        for room in ROOMS:
            self.assertEqual(clashing([], room), [])
            self.assertEqual(clashing([(1, A)], room), [])
            self.assertEqual(clashing([(1, A), (1, A)], room), [])

    def test_rows_of_one_owner(self):
        for room in ROOMS:
            self.assertEqual(clashing([(1, A), (1, B), (1, C)], room), [])

    def test_rooms(self):
        self.assertEqual(clashing(ROWS, 0), [((1, A), (2, A))])
        self.assertEqual(clashing(ROWS, 2), [((1, BARE), (2, A)), ((1, B), (2, A)), ((1, A), (2, A))])
        self.assertEqual(len(clashing(ROWS, 60)), 11)

    def test_rows_turned_about(self):
        for rows in itertools.permutations([(2, A), (1, A), (3, B)]):
            self.assertEqual(clashing(list(rows), 0), [((1, A), (2, A))])
            self.assertEqual(clashing(list(rows), 2), [((1, A), (2, A)), ((1, A), (3, B)), ((2, A), (3, B))])

    def test_by_name(self):
        self.assertEqual(clashing(room=0, rows=ROWS), [((1, A), (2, A))])

    def test_by_the_points_words(self):
        for room in ROOMS:
            told = [
                (row, greater) for row, greater in itertools.product(TIDY, repeat=2)
                if row < greater and row[0] != greater[0] and touching(row[1], greater[1], room)
            ]
            for rows in turned(ROWS):
                self.assertEqual(clashing(rows, room), sorted(told))


class OwnersOfTest(unittest.TestCase):
    def test_no_rows(self):
        for room in ROOMS:
            self.assertEqual(owners_of(A, [], room), ())

    def test_the_ear_itself(self):
        self.assertEqual(owners_of(C, ROWS, 0), (3,))

    def test_equal_ears_of_two_owners(self):
        self.assertEqual(owners_of(A, ROWS, 0), (1, 2))

    def test_torn_ears(self):
        seen = (2, 1, 0, 0, 0, 0)
        self.assertEqual(owners_of(seen, [(4, A)], 0), ())
        self.assertEqual(owners_of(seen, [(4, A)], 1), (4,))
        self.assertEqual(owners_of(seen, [(4, A)], 60), (4,))

    def test_never_of_a_row_that_is_deeper_anywhere(self):
        for room in ROOMS:
            self.assertEqual(owners_of((1, 9, 9, 9, 9, 9), [(4, A)], room), ())
            self.assertEqual(owners_of(A, [(4, C), (5, DEEPEST)], room), ())

    def test_each_owner_once(self):
        self.assertEqual(owners_of(DEEPEST, ROWS, 60), (1, 2, 3))

    def test_owners_rise_as_numbers(self):
        self.assertEqual(owners_of(A, [(GREAT, A), (10, A), (9, A), (100, A)], 0), (9, 10, 100, GREAT))
        # Far off from one another, so that a set would hardly give them in order by itself.
        owners = [1 + at * 7919 for at in range(50)]
        for order in (owners, owners[::-1], owners[25:] + owners[:25]):
            self.assertEqual(owners_of(A, [(owner, A) for owner in order], 0), tuple(owners))
        self.assertEqual(owners_of(A, [(1, A), (8, A)], 0), (1, 8))

    def test_by_name(self):
        self.assertEqual(owners_of(room=0, rows=ROWS, ear=A), (1, 2))

    def test_by_the_points_words(self):
        for ear, room in itertools.product(EARS, ROOMS):
            told = []
            for owner, mark in TIDY:
                above = all(low <= high for low, high in zip(mark, ear))
                if above and missing(mark, ear) <= room and owner not in told:
                    told.append(owner)
            for rows in turned(ROWS):
                owners = owners_of(ear, rows, room)
                self.assertIs(owners.__class__, tuple)
                self.assertEqual(owners, tuple(told))

    def test_of_rows_that_do_not_clash_no_ear_is_two_owners(self):
        seen = list(itertools.product(range(5), range(5), (0,), (0,), (0,), range(2)))
        for pair in itertools.combinations(TIDY, 2):
            for room in range(5):
                if not clashing(list(pair), room) and pair[0][0] != pair[1][0]:
                    for ear in seen:
                        self.assertLess(len(owners_of(ear, list(pair), room)), 2)


class PassingTest(unittest.TestCase):
    def test_no_way(self):
        for room in ROOMS:
            self.assertIsNone(passing(1, A, [], room))
            self.assertIsNone(passing(1, A, [(1, A), (1, B)], room))
        self.assertIsNone(passing(1, A, [(2, BARE)], 1))
        self.assertIsNone(passing(1, DEEPEST, [(2, BARE)], 53))

    def test_an_equal_ear_costs_nothing(self):
        self.assertEqual(passing(1, A, [(2, A)], 0), (0, 2, A))

    def test_what_the_mark_lacks_is_held_against_the_room(self):
        self.assertIsNone(passing(1, A, [(2, B)], 0))
        self.assertEqual(passing(1, A, [(2, B)], 1), (2, 2, (2, 2, 0, 0, 0, 0)))
        self.assertEqual(passing(1, DEEPEST, [(2, BARE)], 54), (0, 2, DEEPEST))

    def test_cuts_are_not_held_against_the_room(self):
        self.assertEqual(passing(1, BARE, [(2, DEEPEST)], 0), (54, 2, DEEPEST))

    def test_the_fewest_cuts_then_the_least_owner_then_the_least_ear(self):
        fore, tip = (0, 1, 0, 0, 0, 0), (1, 0, 0, 0, 0, 0)
        rows = [(4, tip), (3, tip), (3, fore), (2, (0, 1, 1, 0, 0, 0))]
        for order in itertools.permutations(rows):
            self.assertEqual(passing(1, BARE, list(order), 0), (1, 3, fore))
            self.assertEqual(passing(3, BARE, list(order), 0), (1, 4, tip))

    def test_nobody(self):
        self.assertEqual(passing(0, A, ROWS, 0), (0, 1, A))
        self.assertEqual(passing(1, A, ROWS, 0), (0, 2, A))

    def test_by_name(self):
        self.assertEqual(passing(room=0, rows=ROWS, ear=A, owner=1), (0, 2, A))

    def test_by_the_points_words(self):
        for owner, ear, room in itertools.product(OWNERS, EARS, ROOMS):
            ways = sorted(
                (missing(ear, mark), other, greater_of(ear, mark)) for other, mark in TIDY
                if other != owner and missing(mark, ear) <= room
            )
            for rows in turned(ROWS):
                self.assertEqual(passing(owner, ear, rows, room), ways[0] if ways else None)


class KeptApartTest(unittest.TestCase):
    ASKS = (
        tidied,
        lambda rows: barring(4, A, rows, 3),
        lambda rows: clash_of(4, A, rows, 3),
        lambda rows: clashing(rows, 3),
        lambda rows: owners_of(DEEPEST, rows, 60),
        lambda rows: passing(4, A, rows, 3),
    )

    def test_rows_handed_in_stay_as_they_were(self):
        for ask in self.ASKS:
            rows = list(ROWS)
            ask(rows)
            self.assertEqual(rows, ROWS)

    def test_what_was_told_stays_when_the_rows_change(self):
        for ask in self.ASKS:
            rows = list(ROWS)
            told = ask(rows)
            rows.clear()
            self.assertEqual(told, ask(list(ROWS)))

    def test_told_lists_are_their_askers_own(self):
        rows = list(TIDY)
        for ask in (self.ASKS[0], self.ASKS[1], self.ASKS[3]):
            told = ask(rows)
            kept = list(told)
            self.assertIs(told.__class__, list)
            told.clear()
            self.assertEqual(rows, TIDY)
            self.assertEqual(ask(rows), kept)

    def test_tuples_all_through(self):
        pairs = tidied(ROWS) + barring(0, A, ROWS, 60) + clashing(ROWS, 60)
        for pair in pairs:
            self.assertIs(pair.__class__, tuple)
        for row, greater in clashing(ROWS, 60):
            self.assertEqual((row.__class__, greater.__class__), (tuple, tuple))


if __name__ == "__main__":
    unittest.main()
