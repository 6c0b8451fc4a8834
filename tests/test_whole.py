"""Long rows of deeds: a common and a book held against point 15 and against a second telling of the document."""

import itertools
import unittest

from earmarks import errors
from earmarks.book import Book, read_book
from earmarks.commons import Commons
from earmarks.deeds import fits, read_deed, written
from earmarks.gaps import torn
from earmarks.stories import ended, tears_since

BARE = (0, 0, 0, 0, 0, 0)
METHODS = {"owner": "new_owner", "ground": "new_ground", "pass": "pass_on", "heir": "new_heir"}
CLASHING = ("enrol", "cut", "sell", "move", "unite")


class Drawn:
    """Numbers that are drawn by a fixed rule."""

    def __init__(self, seed):
        self.state = seed * 7919 + 17

    def below(self, bound):
        self.state = (self.state * 6364136223846793005 + 1442695040888963407) % 2 ** 64
        return (self.state >> 33) % bound

    def of(self, things):
        return things[self.below(len(things))]


def missing(one, other):
    """Point 5's tears that the first lacks of the second."""
    return sum(max(0, there - here) for here, there in zip(one, other))


def touching(one, other, room):
    return missing(one, other) <= room and missing(other, one) <= room


def both(one, other):
    return tuple(map(max, one, other))


def good_ear(parts):
    return len(parts) == 6 and set(parts) <= set(range(10))


class Refused(Exception):
    """A refusal by name, and what Clash tells."""


class Model:
    """The common by the words of point 16, with all kept as plainly as can be."""

    def __init__(self):
        self.owners, self.count = set(), 0
        self.allowances, self.circles = {}, []
        self.rights, self.beasts = [], {}

    def ask(self, name, applies, *told):
        if applies:
            raise Refused(name, *told)

    def circle(self, ground):
        return next(circle for circle in self.circles if ground in circle)

    def room(self, ground):
        return max(self.allowances[near] for near in self.circle(ground))

    def marks(self, owner, ground):
        return [mark for holder, where, mark in self.rights if (holder, where) == (owner, ground)]

    def rows(self, ground, but=None):
        near = self.circle(ground)
        rows = {(owner, mark) for owner, where, mark in self.rights if where in near}
        return rows | {
            (beast["owner"], beast["due"]) for number, beast in self.beasts.items()
            if beast["alive"] and beast["due"] and beast["ground"] in near and number != but
        }

    def free(self, owner, ear, ground, but=None):
        others = sorted(row for row in self.rows(ground, but) if row[0] != owner)
        bars = [row for row in others if touching(ear, row[1], self.room(ground))]
        if bars:
            raise Refused("Clash", (owner, ear), bars[0], both(ear, bars[0][1]))

    def need_owner(self, owner):
        self.ask("NoOwner", owner not in self.owners)

    def need_ground(self, ground):
        self.ask("NoGround", ground not in self.allowances)

    def living(self, number):
        self.ask("NoBeast", number not in self.beasts)
        self.ask("Dead", not self.beasts[number]["alive"])
        return self.beasts[number]

    def marked(self, number):
        beast = self.living(number)
        self.ask("Unmarked", beast["due"] is None)
        return beast

    def follow(self, number):
        mother = self.beasts[number]
        for calf in self.beasts.values():
            if calf["mother"] == number and calf["alive"] and calf["due"] is None:
                calf.update(owner=mother["owner"], ground=mother["ground"])
                calf["story"] += (("followed", mother["owner"], mother["ground"]),)

    def new_beast(self, owner, ground, ear, mother, first):
        self.beasts[len(self.beasts) + 1] = {
            "owner": owner, "ground": ground, "due": None, "ear": ear, "alive": True, "mother": mother,
            "story": (first,),
        }
        return len(self.beasts)

    def owner(self):
        self.count += 1
        self.owners.add(self.count)
        return self.count

    def ground(self, allowance):
        self.ask("BadAllowance", allowance not in range(10))
        number = len(self.allowances) + 1
        self.allowances[number] = allowance
        self.circles.append({number})
        return number

    def enrol(self, owner, ground, mark):
        self.need_owner(owner)
        self.need_ground(ground)
        self.ask("BadEar", not good_ear(mark))
        self.ask("Bare", mark == BARE)
        self.ask("HasRight", (owner, ground, mark) in self.rights)
        self.free(owner, mark, ground)
        self.rights.append((owner, ground, mark))

    def leave(self, owner, ground):
        self.need_owner(owner)
        self.need_ground(ground)
        marks = self.marks(owner, ground)
        self.ask("NoRight", not marks)
        self.ask("StillThere", any(
            beast["alive"] and (beast["owner"], beast["ground"]) == (owner, ground) for beast in self.beasts.values()
        ))
        self.rights = [row for row in self.rights if row[:2] != (owner, ground)]
        return marks

    def bring(self, owner, ground, ear):
        self.need_owner(owner)
        self.need_ground(ground)
        self.ask("BadEar", not good_ear(ear))
        self.ask("NoRight", not self.marks(owner, ground))
        return self.new_beast(owner, ground, ear, 0, ("brought", owner, ground, ear))

    def bear(self, number):
        mother = self.marked(number)
        owner, ground = mother["owner"], mother["ground"]
        return self.new_beast(owner, ground, BARE, number, ("born", number, owner, ground))

    def cut(self, number):
        beast = self.living(number)
        due = both(beast["ear"], self.marks(beast["owner"], beast["ground"])[0])
        self.free(beast["owner"], due, beast["ground"])
        beast.update(ear=due, due=due, story=beast["story"] + (("cut", due),))
        return due

    def tear(self, number, place):
        beast = self.living(number)
        self.ask("NoPlace", place not in range(6))
        depths = list(beast["ear"])
        self.ask("Deepest", depths[place] == 9)
        depths[place] += 1
        beast.update(ear=tuple(depths), story=beast["story"] + (("torn", place),))
        return tuple(depths)

    def sell(self, number, buyer):
        beast = self.marked(number)
        self.need_owner(buyer)
        self.ask("SameOwner", beast["owner"] == buyer)
        marks = self.marks(buyer, beast["ground"])
        self.ask("NoRight", not marks)
        due = both(beast["ear"], marks[0])
        self.free(buyer, due, beast["ground"], but=number)
        beast.update(owner=buyer, ear=due, due=due, story=beast["story"] + (("sold", buyer, due),))
        self.follow(number)
        return due

    def move(self, number, ground):
        beast = self.marked(number)
        self.need_ground(ground)
        left = beast["ground"]
        self.ask("SameGround", left == ground)
        self.ask("NoRight", not self.marks(beast["owner"], ground))
        self.free(beast["owner"], beast["due"], ground)
        beast.update(ground=ground, story=beast["story"] + (("moved", ground),))
        self.follow(number)
        return left

    def die(self, number):
        beast = self.living(number)
        beast.update(alive=False, story=beast["story"] + (("died",),))

    def quarrels(self, ground, other):
        rows = self.rows(ground) | self.rows(other)
        room = max(self.room(ground), self.room(other))
        return [
            pair for pair in itertools.combinations(sorted(rows), 2)
            if pair[0][0] != pair[1][0] and touching(pair[0][1], pair[1][1], room)
        ]

    def unite(self, ground, other):
        self.need_ground(ground)
        self.need_ground(other)
        one, two = self.circle(ground), self.circle(other)
        self.ask("Together", one is two)
        for least, greater in self.quarrels(ground, other)[:1]:
            raise Refused("Clash", least, greater, both(least[1], greater[1]))
        self.circles = [circle for circle in self.circles if circle not in (one, two)] + [one | two]
        return sorted(one | two)

    def part(self, ground):
        self.need_ground(ground)
        left = self.circle(ground) - {ground}
        self.ask("Alone", not left)
        self.circles = [circle for circle in self.circles if ground not in circle] + [{ground}, left]
        return sorted(left)

    def pass_on(self, elder, heir):
        self.need_owner(elder)
        self.need_owner(heir)
        self.ask("SameOwner", elder == heir)
        changed = [(heir if row[0] == elder else row[0],) + row[1:] for row in self.rights]
        self.rights = [row for at, row in enumerate(changed) if row not in changed[:at]]
        passed = [number for number, beast in self.beasts.items() if beast["alive"] and beast["owner"] == elder]
        for number in passed:
            beast = self.beasts[number]
            beast.update(owner=heir, story=beast["story"] + (("passed", heir),))
        self.owners.remove(elder)
        return passed

    def heir(self, elder, ground, extra):
        self.need_owner(elder)
        self.need_ground(ground)
        self.ask("BadExtra", extra not in (1, 2, 3))
        marks = self.marks(elder, ground)
        self.ask("NoRight", not marks)
        taken = [ear for owner, ear in self.rows(ground)]
        free = [
            ear for ear in torn(marks[0], extra)
            if sum(ear) == sum(marks[0]) + extra and not any(touching(ear, near, self.room(ground)) for near in taken)
        ]
        self.ask("NoneFree", not free)
        number = self.owner()
        self.rights.append((number, ground, free[0]))
        return (number, free[0])

    def do(self, deed):
        """The deed, whether or not its parts keep to the bounds of point 20."""
        return getattr(self, {"pass": "pass_on"}.get(deed[0], deed[0]))(*deed[1:])

    def look(self):
        return (
            sorted(self.owners),
            [(allowance, tuple(sorted(self.circle(ground)))) for ground, allowance in self.allowances.items()],
            list(self.rights),
            [tuple(beast[name] for name in ("owner", "ground", "due", "ear", "alive", "mother", "story"))
             for beast in self.beasts.values()],
        )


def wanted(model, deed):
    """What the model answers, or its refusal's name and what it tells."""
    try:
        return ("answer", model.do(deed))
    except Refused as refusal:
        return refusal.args


def outcome(ask, *parts):
    """What is answered, or the refusal's name and what it tells."""
    try:
        return ("answer", ask(*parts))
    except errors.Clash as clash:
        return ("Clash", clash.ones, clash.others, clash.ear)
    except errors.CommonError as refusal:
        return (refusal.__class__.__name__,)


def by_method(commons, deed):
    return outcome(getattr(commons, METHODS.get(deed[0], deed[0])), *deed[1:])


def drawn_ear(drawn, few):
    """A near ear, so that ears meet often: few cuts at few places."""
    ear = [0] * 6
    for time in range(drawn.below(3)):
        ear[drawn.of((0, 0, 1, 4))] = drawn.below(few)
    return tuple(ear)


def drawn_deed(drawn, model, few, limits):
    """A deed whose numbers are mostly there, and sometimes not."""
    owners, grounds, beasts = model.count, len(model.allowances), len(model.beasts)

    def owner():
        return drawn.below(owners + 2) if drawn.below(10) == 0 else drawn.of(sorted(model.owners) or [1])

    def ground():
        return drawn.below(grounds + 2) if drawn.below(12) == 0 else 1 + drawn.below(max(1, grounds))

    def beast():
        alive = [number for number, row in model.beasts.items() if row["alive"]]
        return drawn.below(beasts + 2) if drawn.below(10) == 0 else drawn.of(alive or [1])

    words = ["enrol"] * 6 + ["bring"] * 5 + ["cut"] * 8 + ["tear"] * 8 + ["sell"] * 8 + ["move"] * 5 + ["bear"] * 4
    words += ["unite"] * 3 + ["leave", "leave", "die", "die", "part", "part", "pass", "heir", "heir", "owner", "ground"]
    word = drawn.of(words)
    if word == "owner" and len(model.owners) > limits[0] or word == "ground" and grounds > limits[1]:
        word = "cut"
    if word == "bring" and beasts > limits[2]:
        word = "die"
    parts = {
        "owner": lambda: (), "ground": lambda: (drawn.of((0, 0, 1, 1, 2, 3, 10)),),
        "enrol": lambda: (owner(), ground(), drawn_ear(drawn, few)), "leave": lambda: (owner(), ground()),
        "bring": lambda: (owner(), ground(), drawn_ear(drawn, few)), "bear": lambda: (beast(),),
        "cut": lambda: (beast(),), "tear": lambda: (beast(), drawn.of((0, 0, 1, 4, 5, 2, 3))),
        "sell": lambda: (beast(), owner()), "move": lambda: (beast(), ground()), "die": lambda: (beast(),),
        "unite": lambda: (ground(), ground()), "part": lambda: (ground(),), "pass": lambda: (owner(), owner()),
        "heir": lambda: (owner(), ground(), drawn.below(5)),
    }
    return (word,) + parts[word]()


class Whole(unittest.TestCase):
    def check_promise(self, commons, seen):
        """Point 15, asked of what the common itself tells."""
        owners, grounds, rights, beasts = commons.look()
        for ground in range(1, len(grounds) + 1):
            rows, room = commons.standing(ground), commons.room(ground)
            self.assertEqual(rows, sorted(set(rows)))
            for one, other in itertools.combinations(rows, 2):
                self.assertFalse(one[0] != other[0] and touching(one[1], other[1], room), (ground, one, other))
            self.assertEqual(commons.quarrels(ground, ground), [])
            for ear in seen + [ear for owner, ear in rows]:
                self.assertLessEqual(len(commons.whose(ground, ear)), 1)
            gathered = {beast: (ear, whose) for beast, ear, whose in commons.gather(ground)}
            self.assertEqual(list(gathered), [
                at + 1 for at, row in enumerate(beasts) if row[4] and row[1] in grounds[ground - 1][1]
            ])
            for number, (ear, whose) in gathered.items():
                owner, where, due, now = beasts[number - 1][:4]
                self.assertEqual(ear, now)
                if due is None:
                    self.assertIsNone(whose)
                elif missing(due, now) <= room:
                    self.assertEqual(whose, (owner,))
                if due is not None:
                    self.assertEqual(whose, commons.whose(ground, now))
        self.check_beasts(commons, owners, rights, beasts)

    def check_beasts(self, commons, owners, rights, beasts):
        held = {row[:2] for row in rights}
        self.assertLessEqual({row[0] for row in rights}, set(owners))
        for at, (owner, ground, due, ear, alive, mother, story) in enumerate(beasts):
            self.assertEqual(ended(list(story)), (owner, ground, due, ear, alive))
            self.assertEqual(commons.history(at + 1), list(story))
            self.assertEqual(tears_since(list(story)), None if due is None else missing(due, ear))
            if alive:
                self.assertIn((owner, ground), held)
                self.assertIn(owner, owners)
            if alive and due is not None:
                self.assertEqual(commons.worn(at + 1), missing(due, ear))

    def check_told(self, commons, model):
        """What only looks, against the model."""
        self.assertEqual(commons.look(), model.look())
        self.assertEqual(commons.owners(), sorted(model.owners))
        alive = {number: row for number, row in model.beasts.items() if row["alive"]}
        for ground in model.allowances:
            rows, room = model.rows(ground), model.room(ground)
            self.assertEqual((commons.standing(ground), commons.room(ground)), (sorted(rows), room))
            self.assertEqual(commons.together(ground), sorted(model.circle(ground)))
            for owner in model.owners:
                self.assertEqual(commons.marks(owner, ground), model.marks(owner, ground))
            for other in model.allowances:
                self.assertEqual(commons.quarrels(ground, other), model.quarrels(ground, other))
        spots = sorted({(row["owner"], row["ground"]) for row in alive.values()})
        self.assertEqual(commons.tally(), [
            (owner, ground) + tuple(sum(
                (row["owner"], row["ground"], row["due"] is not None) == (owner, ground, cut) for row in alive.values()
            ) for cut in (True, False))
            for owner, ground in spots
        ])
        for number in model.beasts:
            self.assertEqual(commons.calves(number), [
                at for at, row in alive.items() if row["mother"] == number and row["due"] is None
            ])
        for number, row in alive.items():
            if row["due"] is not None:
                self.assertEqual(commons.price(number), self.price(model, row))

    def price(self, model, beast):
        room, ear = model.room(beast["ground"]), beast["ear"]
        ways = sorted(
            (missing(ear, mark), owner, both(ear, mark)) for owner, mark in model.rows(beast["ground"])
            if owner != beast["owner"] and missing(mark, ear) <= room
        )
        return ways[0] if ways else None

    def walk(self, seed, many, few, limits, told):
        """A row of deeds on a model, a common by its methods, another by tuples, and a book."""
        drawn, model, commons, other, book = Drawn(seed), Model(), Commons(), Commons(), Book()
        start = [("owner",)] * 3 + [("ground", 1), ("ground", 0)]
        kept = []
        for at in range(many):
            deed = start[at] if at < len(start) else drawn_deed(drawn, model, few, limits)
            before = commons.look()
            want = wanted(model, deed)
            self.assertEqual(by_method(commons, deed), want, deed)
            self.assertEqual(outcome(other.do, deed), want, deed)
            self.assertEqual(outcome(book.do, deed), want, deed)
            self.count(told, deed[0], want)
            if want[0] == "answer":
                kept.append(deed)
            else:
                self.assertEqual(commons.look(), before)
            seen = [drawn_ear(drawn, few) for time in range(4)]
            self.check_promise(commons, seen)
            if at % 3 == 0:
                self.check_told(commons, model)
        self.assertEqual(commons.look(), model.look())
        self.assertEqual(other.look(), model.look())
        self.check_book(book, kept, model.look())

    def check_book(self, book, kept, look):
        self.assertEqual((book.deeds(), book.look()), (kept, look))
        self.assertEqual([read_deed(written(deed)) for deed in kept], kept)
        again = read_book(book.page())
        self.assertEqual((again.deeds(), again.look(), again.page()), (kept, look, book.page()))
        half = Commons()
        for deed in kept[:len(kept) // 2]:
            half.do(deed)
        book.back(len(kept) // 2)
        self.assertEqual(book.look(), half.look())
        for deed in kept[len(kept) // 2:]:
            book.do(deed)
        self.assertEqual(book.look(), look)

    def count(self, told, word, want):
        self.assertTrue(want[0] != "Clash" or word in CLASHING, word)
        told[(word, want[0])] = told.get((word, want[0]), 0) + 1

    def test_long_rows_of_deeds(self):
        told = {}
        for seed in range(30):
            self.walk(seed, 160, 4 + seed % 6, (4, 4, 12), told)
        self.check_counts(told)

    def test_a_longer_row(self):
        self.walk(1000, 500, 7, (4, 3, 30), {})

    def check_counts(self, told):
        """The rows of deeds come upon each refusal and each deed's answer, so they prove something."""
        for word in CLASHING:
            self.assertIn((word, "Clash"), told)
        refusals = {
            "owner": (), "ground": ("BadAllowance",), "enrol": ("NoOwner", "NoGround", "Bare", "HasRight"),
            "leave": ("NoOwner", "NoGround", "NoRight", "StillThere"), "bring": ("NoOwner", "NoGround", "NoRight"),
            "bear": ("NoBeast", "Dead", "Unmarked"), "cut": ("NoBeast", "Dead"),
            "tear": ("NoBeast", "Dead", "Deepest"),
            "sell": ("NoBeast", "Dead", "Unmarked", "NoOwner", "SameOwner", "NoRight"),
            "move": ("NoBeast", "Dead", "Unmarked", "NoGround", "SameGround", "NoRight"), "die": ("NoBeast", "Dead"),
            "unite": ("NoGround", "Together"), "part": ("NoGround", "Alone"), "pass": ("NoOwner", "SameOwner"),
            "heir": ("NoOwner", "NoGround", "BadExtra", "NoRight", "NoneFree"),
        }
        for word, names in refusals.items():
            for name in names + ("answer",):
                self.assertIn((word, name), told)


class WrongInputsTest(unittest.TestCase):
    """Methods at parts that no tuple of a deed may have, against the model."""

    NUMBERS = (-1, 0, 1, 2, 3, 4)
    EARS = ((), BARE[:5], (0, 0, 0, 0, 0, 10), BARE, (3, 0, 0, 0, 0, 0), (4, 0, 0, 0, 0, 0), (0, 0, 0, 0, 4, 0))

    def pair(self):
        """A common and the model of it, with a living, a never cut and a dead beast."""
        commons, model = Commons(), Model()
        for deed in (
            ("owner",), ("owner",), ("owner",), ("pass", 3, 1), ("ground", 1), ("ground", 0),
            ("enrol", 1, 1, (3, 0, 0, 0, 0, 0)), ("enrol", 2, 1, (0, 0, 0, 0, 4, 0)), ("bring", 1, 1, BARE), ("cut", 1),
            ("bring", 1, 1, (0, 0, 0, 0, 0, 9)), ("bring", 2, 1, BARE), ("die", 3),
        ):
            commons.do(deed)
            model.do(deed)
        return commons, model

    def deeds(self):
        for one in self.NUMBERS:
            for word in ("bear", "cut", "die", "part", "ground"):
                yield (word, one)
            yield ("ground", one + 8)
            for other in self.NUMBERS + (5, 6):
                for word in ("leave", "tear", "sell", "move", "unite", "pass"):
                    yield (word, one, other)
                for ear in self.EARS:
                    yield ("enrol", one, other, ear)
                    yield ("bring", one, other, ear)
                for extra in (-1, 0, 1, 2, 3, 4):
                    yield ("heir", one, other, extra)

    def test_each_deed_with_all_rows_of_near_numbers(self):
        for deed in self.deeds():
            commons, model = self.pair()
            before = commons.look()
            want = wanted(model, deed)
            self.assertEqual(by_method(commons, deed), want, deed)
            self.assertEqual(commons.look(), model.look() if want[0] == "answer" else before)
            if not fits(deed):
                self.assertEqual(outcome(commons.do, deed), ("BadDeed",))


if __name__ == "__main__":
    unittest.main()
