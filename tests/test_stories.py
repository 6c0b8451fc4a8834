"""Points 1, 18 and 19 and the interface's part on stories."""

import itertools
import unittest

from earmarks.stories import ended, tears_since

GREAT = 10 ** 5000
BARE = (0, 0, 0, 0, 0, 0)
A = (3, 0, 0, 0, 0, 0)
B = (3, 0, 2, 0, 0, 1)
DEEPEST = (9, 9, 9, 9, 9, 9)
BROUGHT = ("brought", 1, 2, A)
BORN = ("born", 7, 1, 2)
LATER = (
    ("cut", B), ("torn", 0), ("torn", 5), ("sold", 4, DEEPEST), ("moved", 5),
    ("followed", 6, 8), ("passed", 9), ("died",),
)


def last_of(story, words, at, otherwise):
    """The part at a place of the last tuple with one of these words, or the other thing."""
    found = [event[at[event[0]]] for event in story if event[0] in words]
    return found[-1] if found else otherwise


def by_words(story):
    """What a story comes to, asked for each thing apart from the others."""
    owner = last_of(story, at={"brought": 1, "born": 2, "sold": 1, "followed": 1, "passed": 1},
                    words=("brought", "born", "sold", "followed", "passed"), otherwise=None)
    ground = last_of(story, at={"brought": 2, "born": 3, "moved": 1, "followed": 2},
                     words=("brought", "born", "moved", "followed"), otherwise=None)
    due = last_of(story, at={"cut": 1, "sold": 2}, words=("cut", "sold"), otherwise=None)
    set_at = max(at for at, event in enumerate(story) if at == 0 or event[0] in ("cut", "sold"))
    first = BARE if story[0][0] == "born" else story[0][-1]
    places = [event[1] for event in story[set_at:] if event[0] == "torn"]
    ear = tuple(depth + places.count(at) for at, depth in enumerate(first if due is None else due))
    return (owner, ground, due, ear, ("died",) not in story), None if due is None else len(places)


class BeginningTest(unittest.TestCase):
    def test_brought(self):
        self.assertEqual(ended([BROUGHT]), (1, 2, None, A, True))
        self.assertEqual(ended([("brought", 3, 4, BARE)]), (3, 4, None, BARE, True))

    def test_born_begins_without_cuts_at_the_told_owner_and_ground(self):
        self.assertEqual(ended([BORN]), (1, 2, None, BARE, True))

    def test_no_cut_no_count_of_tears(self):
        for story in ([BROUGHT], [BORN], [BORN, ("torn", 1)], [BROUGHT, ("moved", 3), ("torn", 1), ("died",)]):
            self.assertIsNone(tears_since(story))


class EventsTest(unittest.TestCase):
    def check(self, event, stand):
        self.assertEqual(ended([BROUGHT, event]), stand)

    def test_each_alone(self):
        self.check(("cut", B), (1, 2, B, B, True))
        self.check(("torn", 0), (1, 2, None, (4, 0, 0, 0, 0, 0), True))
        self.check(("torn", 5), (1, 2, None, (3, 0, 0, 0, 0, 1), True))
        self.check(("sold", 4, B), (4, 2, B, B, True))
        self.check(("moved", 5), (1, 5, None, A, True))
        self.check(("followed", 6, 8), (6, 8, None, A, True))
        self.check(("passed", 9), (9, 2, None, A, True))
        self.check(("died",), (1, 2, None, A, False))

    def test_each_place_tears_alone(self):
        for place in range(6):
            ear = tuple(int(at == place) for at in range(6))
            self.assertEqual(ended([BORN, ("torn", place)]), (1, 2, None, ear, True))

    def test_a_tear_leaves_the_due_ear(self):
        story = [BROUGHT, ("cut", B), ("torn", 1), ("torn", 1)]
        self.assertEqual(ended(story), (1, 2, B, (3, 2, 2, 0, 0, 1), True))

    def test_tears_however_deep(self):
        story = [BORN, ("cut", DEEPEST)] + [("torn", 3)] * 40
        self.assertEqual(ended(story), (1, 2, DEEPEST, (9, 9, 9, 49, 9, 9), True))
        self.assertEqual(tears_since(story), 40)

    def test_a_cut_sets_the_ear_whatever_it_was(self):
        story = [("brought", 1, 2, DEEPEST), ("torn", 0), ("cut", A)]
        self.assertEqual(ended(story), (1, 2, A, A, True))

    def test_what_stands_behind_died_is_read_and_it_stays_dead(self):
        story = [BROUGHT, ("died",)]
        for event in LATER:
            alive = ended([BROUGHT, event])
            self.assertEqual(ended(story + [event]), alive[:4] + (False,))
        everything = story + list(LATER)
        self.assertEqual(ended(everything), (9, 8, DEEPEST, DEEPEST, False))

    def test_tears_behind_died_count(self):
        self.assertEqual(tears_since([BORN, ("cut", A), ("torn", 0), ("died",), ("torn", 0)]), 2)

    def test_great_numbers(self):
        story = [("born", GREAT, GREAT + 1, GREAT + 2), ("moved", -GREAT), ("passed", 0)]
        self.assertEqual(ended(story), (0, -GREAT, None, BARE, True))


class TearsTest(unittest.TestCase):
    def test_none_behind_the_last_cut(self):
        self.assertEqual(tears_since([BROUGHT, ("cut", B)]), 0)
        self.assertEqual(tears_since([BROUGHT, ("torn", 1), ("cut", B)]), 0)
        self.assertEqual(tears_since([BROUGHT, ("cut", B), ("torn", 1), ("sold", 2, B)]), 0)

    def test_counted_from_the_last_cut_or_sold(self):
        self.assertEqual(tears_since([BORN, ("cut", B), ("torn", 0), ("torn", 0)]), 2)
        self.assertEqual(tears_since([BORN, ("cut", B), ("torn", 0), ("sold", 2, B), ("torn", 4)]), 1)
        self.assertEqual(tears_since([BORN, ("sold", 2, B), ("torn", 0), ("cut", B), ("torn", 4), ("torn", 4)]), 2)

    def test_other_things_begin_no_new_count(self):
        others = [("moved", 3), ("followed", 3, 3), ("passed", 3), ("died",)]
        for other in others:
            self.assertEqual(tears_since([BORN, ("cut", B), ("torn", 0), other, ("torn", 1)]), 2)


class AllStoriesTest(unittest.TestCase):
    def test_all_rows_of_up_to_four_events(self):
        for first in (BROUGHT, BORN):
            for many in range(5):
                for later in itertools.product(LATER, repeat=many):
                    story = [first] + list(later)
                    self.assertEqual((ended(story), tears_since(story)), by_words(story))

    def test_a_story_as_look_tells_it(self):
        story = (BROUGHT,) + LATER
        self.assertEqual(ended(story), ended(list(story)))
        self.assertEqual(tears_since(story), 0)

    def test_what_is_handed_in_stays(self):
        story = [BROUGHT] + list(LATER)
        kept = list(story)
        ended(story)
        tears_since(story)
        self.assertEqual(story, kept)

    def test_by_name(self):
        self.assertEqual(ended(story=[BORN]), (1, 2, None, BARE, True))
        self.assertIsNone(tears_since(story=[BORN]))


if __name__ == "__main__":
    unittest.main()
