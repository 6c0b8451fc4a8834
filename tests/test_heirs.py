"""Points 1 and 12 and the interface's part on heirs."""

import itertools
import unittest

from earmarks.errors import NoneFree
from earmarks.heirs import first_free, offspring

BARE = (0, 0, 0, 0, 0, 0)
DEEPEST = (9, 9, 9, 9, 9, 9)
TIP = (1, 0, 0, 0, 0, 0)
MARKS = [BARE, DEEPEST, TIP, (3, 1, 0, 0, 0, 0), (8, 8, 8, 8, 8, 8), (9, 8, 9, 8, 9, 8), (8, 9, 9, 9, 9, 9),
         (9, 9, 9, 9, 9, 8), (9, 9, 9, 9, 9, 7), (0, 9, 0, 9, 0, 9), (7, 6, 5, 4, 3, 2)]
EXTRAS = (1, 2, 3)
GREAT = 10 ** 5000


def cut_on(mark, extra):
    """Point 12's offspring, by all ways to add so many cuts to the six places."""
    ears = [
        tuple(depth + more for depth, more in zip(mark, added))
        for added in itertools.product(range(extra + 1), repeat=6)
        if sum(added) == extra
    ]
    return sorted(ear for ear in ears if max(ear) <= 9)


def apart(one, other):
    gaps = [there - here for here, there in zip(one, other)]
    return max(sum(gap for gap in gaps if gap > 0), -sum(gap for gap in gaps if gap < 0))


class OffspringTest(unittest.TestCase):
    def test_of_an_ear_without_cuts(self):
        self.assertEqual(offspring(BARE, 1), [
            (0, 0, 0, 0, 0, 1), (0, 0, 0, 0, 1, 0), (0, 0, 0, 1, 0, 0),
            (0, 0, 1, 0, 0, 0), (0, 1, 0, 0, 0, 0), (1, 0, 0, 0, 0, 0),
        ])
        self.assertEqual([len(offspring(BARE, extra)) for extra in EXTRAS], [6, 21, 56])

    def test_the_mark_itself_is_none(self):
        for mark, extra in itertools.product(MARKS, EXTRAS):
            self.assertNotIn(mark, offspring(mark, extra))

    def test_an_ear_of_nines_all_round(self):
        for extra in EXTRAS:
            self.assertEqual(offspring(DEEPEST, extra), [])

    def test_near_the_greatest_depth(self):
        self.assertEqual(offspring((9, 9, 9, 9, 9, 8), 1), [DEEPEST])
        self.assertEqual(offspring((9, 9, 9, 9, 9, 8), 2), [])
        self.assertEqual(offspring((9, 9, 9, 9, 9, 7), 2), [DEEPEST])
        self.assertEqual(offspring((9, 8, 9, 8, 9, 9), 1), [(9, 8, 9, 9, 9, 9), (9, 9, 9, 8, 9, 9)])
        self.assertEqual(offspring((9, 8, 9, 8, 9, 9), 2), [DEEPEST])

    def test_by_the_points_words(self):
        for mark, extra in itertools.product(MARKS, EXTRAS):
            with self.subTest(mark=mark, extra=extra):
                told = offspring(mark, extra)
                self.assertEqual(told, cut_on(mark, extra))
                self.assertIs(told.__class__, list)
                for ear in told:
                    self.assertIs(ear.__class__, tuple)

    def test_by_name(self):
        self.assertEqual(offspring(extra=1, mark=(9, 9, 9, 9, 9, 8)), [DEEPEST])

    def test_the_told_list_is_its_askers_own(self):
        for extra in EXTRAS:
            told = offspring(TIP, extra)
            told.clear()
            told.append(DEEPEST)
            self.assertEqual(offspring(TIP, extra), cut_on(TIP, extra))


class FirstFreeTest(unittest.TestCase):
    def refuse(self, mark, extra, rows, room):
        with self.assertRaises(NoneFree):
            first_free(mark, extra, rows, room)

    def test_no_rows(self):
        for room in (0, 3, 60):
            self.assertEqual(first_free(TIP, 1, [], room), (1, 0, 0, 0, 0, 1))
            self.assertEqual(first_free(TIP, 2, [], room), (1, 0, 0, 0, 0, 2))
            self.assertEqual(first_free(TIP, 3, [], room), (1, 0, 0, 0, 0, 3))

    def test_no_offspring(self):
        for extra in EXTRAS:
            self.refuse(DEEPEST, extra, [], 0)
        self.refuse((9, 9, 9, 9, 9, 8), 2, [], 0)

    def test_the_least_is_taken(self):
        rows = [(5, (1, 0, 0, 0, 1, 0)), (1, (1, 0, 0, 0, 0, 1))]
        self.assertEqual(first_free(TIP, 1, rows, 0), (1, 0, 0, 1, 0, 0))
        self.assertEqual(first_free(TIP, 1, rows[:1], 0), (1, 0, 0, 0, 0, 1))
        self.assertEqual(first_free(TIP, 1, rows[1:], 0), (1, 0, 0, 0, 1, 0))

    def test_every_offspring_is_taken(self):
        for mark, extra in itertools.product(MARKS, EXTRAS):
            born = cut_on(mark, extra)
            self.refuse(mark, extra, [(at + 1, ear) for at, ear in enumerate(born)], 0)
            self.refuse(mark, extra, [(1, ear) for ear in reversed(born)] * 2, 0)

    def test_the_last_alone_is_free(self):
        for extra in EXTRAS:
            born = cut_on(TIP, extra)
            rows = [(7, ear) for ear in born[:-1]]
            self.assertEqual(first_free(TIP, extra, rows, 0), born[-1])

    def test_the_marks_own_row_counts_too(self):
        for extra in EXTRAS:
            least = cut_on(TIP, extra)[0]
            self.assertEqual(first_free(TIP, extra, [(1, TIP)], extra - 1), least)
            self.refuse(TIP, extra, [(1, TIP)], extra)
            # It is nothing by itself: it counts where it is handed in.
            self.assertEqual(first_free(TIP, extra, [], extra), least)

    def test_all_the_room(self):
        for extra in EXTRAS:
            self.refuse(BARE, extra, [(1, DEEPEST)], 60)
            self.refuse(BARE, extra, [(GREAT, DEEPEST)], 54)
            self.assertEqual(first_free(BARE, extra, [(1, DEEPEST)], 53 - extra), cut_on(BARE, extra)[0])

    def test_by_the_points_words(self):
        rows = [(2, (3, 1, 0, 0, 0, 1)), (1, (8, 8, 8, 8, 8, 9)), (1, TIP), (3, (0, 9, 0, 9, 0, 9)),
                (4, (1, 0, 0, 0, 2, 0)), (5, (9, 9, 9, 9, 9, 9))]
        for mark, extra, room in itertools.product(MARKS, EXTRAS, range(6)):
            free = [ear for ear in cut_on(mark, extra) if all(apart(ear, row[1]) > room for row in rows)]
            for order in (rows, rows[::-1], rows + rows):
                with self.subTest(mark=mark, extra=extra, room=room):
                    if free:
                        told = first_free(mark, extra, list(order), room)
                        self.assertEqual(told, free[0])
                        self.assertIs(told.__class__, tuple)
                    else:
                        self.refuse(mark, extra, list(order), room)

    def test_by_name(self):
        self.assertEqual(first_free(room=0, rows=[], extra=1, mark=BARE), (0, 0, 0, 0, 0, 1))

    def test_rows_handed_in_stay_as_they_were(self):
        rows = [(5, (1, 0, 0, 0, 1, 0)), (1, TIP), (5, (1, 0, 0, 0, 1, 0))]
        kept = list(rows)
        first_free(TIP, 2, rows, 1)
        self.refuse(TIP, 1, rows, 5)
        self.assertEqual(rows, kept)


if __name__ == "__main__":
    unittest.main()
