"""The common: owners, grounds, rights and beasts, and the deeds that change them.

Each deed asks all its refusals ahead of its first change, so a refused one changes nothing.
"""

from earmarks.beasts import Herd
from earmarks.deeds import fits
from earmarks.ears import BARE_EAR, GREATEST_DEPTH, PLACES, is_ear
from earmarks.errors import (
    BadDeed, BadEar, BadExtra, Bare, Clash, Deepest, HasRight, NoOwner, NoPlace, NoRight,
    SameGround, SameOwner, StillThere, Together,
)
from earmarks.gaps import joint, lacks
from earmarks.grounds import Grounds
from earmarks.heirs import first_free
from earmarks.rights import Rights
from earmarks.standing import ask_room, barring, clashing, owners_of, passing, tidied

FEWEST_EXTRA = 1
MOST_EXTRA = 3


def need_ear(parts):
    """Refuse with BadEar where a tuple is no ear."""
    if not is_ear(parts):
        raise BadEar()


class Commons:
    """A common, with nothing at first."""

    def __init__(self):
        self.owner_count = 0
        # The owners who are there are the keys, in order of their numbers.
        self.holders = {}
        self.grounds = Grounds()
        self.rights = Rights()
        self.herd = Herd()

    def new_owner(self):
        """Add an owner, and tell the number."""
        self.owner_count += 1
        self.holders[self.owner_count] = True
        return self.owner_count

    def new_ground(self, allowance):
        """Add a ground that lies alone, and tell the number; BadAllowance."""
        return self.grounds.add_ground(allowance)

    def enrol(self, owner, ground, mark):
        """Give an owner a right; NoOwner, NoGround, BadEar, Bare, HasRight, Clash."""
        self.need_owner(owner)
        self.grounds.need(ground)
        need_ear(mark)
        if mark == BARE_EAR:
            raise Bare()
        if mark in self.rights.marks(owner, ground):
            raise HasRight()
        self.ask_ground(owner, mark, ground)
        self.rights.add_right(owner, ground, mark)

    def leave(self, owner, ground):
        """Take an owner's rights at a ground, and tell the marks; NoOwner, NoGround, NoRight, StillThere."""
        self.need_owner(owner)
        self.grounds.need(ground)
        self.need_right(owner, ground)
        if any([beast.owner == owner for number, beast in self.herd.grazing([ground])]):
            raise StillThere()
        return self.rights.drop(owner, ground)

    def bring(self, owner, ground, ear):
        """Add a beast that was never cut here, and tell its number; NoOwner, NoGround, BadEar, NoRight."""
        self.need_owner(owner)
        self.grounds.need(ground)
        need_ear(ear)
        self.need_right(owner, ground)
        return self.herd.add_beast(("brought", owner, ground, ear))

    def bear(self, mother):
        """Add a calf, and tell its number; NoBeast, Dead, Unmarked."""
        cow = self.herd.marked(mother)
        return self.herd.add_beast(("born", mother, cow.owner, cow.ground))

    def cut(self, beast):
        """Cut a beast with its owner's first mark, and tell its ear; NoBeast, Dead, Clash."""
        found = self.herd.living(beast)
        due = joint(found.ear, self.first_mark(found.owner, found.ground))
        self.ask_ground(found.owner, due, found.ground)
        found.befall(("cut", due))
        return due

    def tear(self, beast, place):
        """Tear a beast's ear at a place, and tell the ear; NoBeast, Dead, NoPlace, Deepest."""
        found = self.herd.living(beast)
        if not 0 <= place < len(PLACES):
            raise NoPlace()
        if found.ear[place] >= GREATEST_DEPTH:
            raise Deepest()
        found.befall(("torn", place))
        return found.ear

    def sell(self, beast, buyer):
        """Sell a beast, and tell its ear; NoBeast, Dead, Unmarked, NoOwner, SameOwner, NoRight, Clash."""
        found = self.herd.marked(beast)
        self.need_owner(buyer)
        if found.owner == buyer:
            raise SameOwner()
        self.need_right(buyer, found.ground)
        due = joint(found.ear, self.first_mark(buyer, found.ground))
        ask_room(buyer, due, self.standing_but(beast, found.ground), self.room(found.ground))
        found.befall(("sold", buyer, due))
        self.herd.lead_calves(beast)
        return due

    def move(self, beast, ground):
        """Move a beast, and tell what it left; NoBeast, Dead, Unmarked, NoGround, SameGround, NoRight, Clash."""
        found = self.herd.marked(beast)
        self.grounds.need(ground)
        left = found.ground
        if left == ground:
            raise SameGround()
        self.need_right(found.owner, ground)
        self.ask_ground(found.owner, found.due, ground)
        found.befall(("moved", ground))
        self.herd.lead_calves(beast)
        return left

    def die(self, beast):
        """Let a beast die; NoBeast, Dead."""
        self.herd.living(beast).befall(("died",))

    def unite(self, ground, other):
        """Lay two grounds together, and tell all that are so then; NoGround, Together, Clash."""
        self.grounds.need(other)
        if other in self.together(ground):
            raise Together()
        pairs = self.quarrels(ground, other)
        if pairs:
            row, greater = pairs[0]
            raise Clash(row, greater, joint(row[1], greater[1]))
        return self.grounds.unite(ground, other)

    def part(self, ground):
        """Lay a ground alone, and tell those that it leaves; NoGround, Alone."""
        return self.grounds.part(ground)

    def pass_on(self, elder, heir):
        """Give all of an elder to an heir, and tell the beasts' numbers; NoOwner, SameOwner."""
        self.need_owner(elder)
        self.need_owner(heir)
        if elder == heir:
            raise SameOwner()
        self.rights.hand_over(elder, heir)
        passed = self.herd.owned(elder)
        for number, beast in passed:
            beast.befall(("passed", heir))
        del self.holders[elder]
        return [number for number, beast in passed]

    def new_heir(self, elder, ground, extra):
        """Add an owner with a free offspring of the elder's first mark, and tell the number and the mark.

        NoOwner, NoGround, BadExtra, NoRight, NoneFree.
        """
        self.need_owner(elder)
        self.grounds.need(ground)
        if not FEWEST_EXTRA <= extra <= MOST_EXTRA:
            raise BadExtra()
        self.need_right(elder, ground)
        mark = first_free(self.first_mark(elder, ground), extra, self.standing(ground), self.room(ground))
        heir = self.new_owner()
        self.rights.add_right(heir, ground, mark)
        return (heir, mark)

    def do(self, deed):
        """Do the deed that a tuple tells, with its answer and its refusals; ahead of them BadDeed."""
        if not fits(deed):
            raise BadDeed()
        word, *parts = deed
        if word == "owner":
            return self.new_owner()
        if word == "ground":
            return self.new_ground(parts[0])
        if word == "enrol":
            return self.enrol(parts[0], parts[1], parts[2])
        if word == "leave":
            return self.leave(parts[0], parts[1])
        if word == "bring":
            return self.bring(parts[0], parts[1], parts[2])
        if word == "bear":
            return self.bear(parts[0])
        if word == "cut":
            return self.cut(parts[0])
        if word == "tear":
            return self.tear(parts[0], parts[1])
        if word == "sell":
            return self.sell(parts[0], parts[1])
        if word == "move":
            return self.move(parts[0], parts[1])
        if word == "die":
            return self.die(parts[0])
        if word == "unite":
            return self.unite(parts[0], parts[1])
        if word == "part":
            return self.part(parts[0])
        if word == "pass":
            return self.pass_on(parts[0], parts[1])
        return self.new_heir(parts[0], parts[1], parts[2])

    def owners(self):
        """Tell the owners who are there, rising."""
        return list(self.holders)

    def room(self, ground):
        """Tell the room at a ground; NoGround."""
        return self.grounds.room(ground)

    def together(self, ground):
        """Tell all grounds that lie together with one, itself too, rising; NoGround."""
        return self.grounds.together(ground)

    def marks(self, owner, ground):
        """Tell an owner's marks at a ground as they came; NoOwner, NoGround."""
        self.need_owner(owner)
        self.grounds.need(ground)
        return self.rights.marks(owner, ground)

    def standing(self, ground):
        """Tell the standing ears at a ground, rising, each once; NoGround."""
        # Beasts are numbered from 1 on: so none is left out.
        return self.standing_but(0, ground)

    def standing_but(self, left_out, ground):
        """Tell the standing ears at a ground as they are without one beast's own due ear; NoGround."""
        near = self.together(ground)
        due = [
            (beast.owner, beast.due)
            for number, beast in self.herd.grazing(near)
            if beast.due is not None and number != left_out
        ]
        return tidied(self.rights.in_grounds(near) + due)

    def bars(self, owner, ground, ear):
        """Tell the standing rows that bar an owner's ear at a ground, rising; NoOwner, NoGround, BadEar."""
        self.need_owner(owner)
        self.grounds.need(ground)
        need_ear(ear)
        return barring(owner, ear, self.standing(ground), self.room(ground))

    def quarrels(self, ground, other):
        """Tell the pairs of rows that meet where two grounds lie together, rising; NoGround."""
        room = max(self.room(ground), self.room(other))
        return clashing(self.standing(ground) + self.standing(other), room)

    def whose(self, ground, ear):
        """Tell the owners whose an ear that is seen at a ground may be, rising; NoGround, BadEar."""
        self.grounds.need(ground)
        need_ear(ear)
        return owners_of(ear, self.standing(ground), self.room(ground))

    def gather(self, ground):
        """Tell (beast, ear, owners or None) of all living beasts that graze together there; NoGround."""
        rows = self.standing(ground)
        room = self.room(ground)
        return [
            (number, beast.ear, None if beast.due is None else owners_of(beast.ear, rows, room))
            for number, beast in self.herd.grazing(self.together(ground))
        ]

    def worn(self, beast):
        """Tell how many tears a beast's due ear lacks of its ear; NoBeast, Dead, Unmarked."""
        found = self.herd.marked(beast)
        return lacks(found.due, found.ear)

    def price(self, beast):
        """Tell the price of a beast's ear where it grazes, or None; NoBeast, Dead, Unmarked."""
        found = self.herd.marked(beast)
        return passing(found.owner, found.ear, self.standing(found.ground), self.room(found.ground))

    def calves(self, beast):
        """Tell a beast's living calves that were never cut here, rising; NoBeast."""
        return [number for number, calf in self.herd.calves(beast)]

    def history(self, beast):
        """Tell a beast's story; NoBeast."""
        return list(self.herd.known(beast).story)

    def tally(self):
        """Tell (owner, ground, how many cut, how many not) of all living beasts, rising."""
        return self.herd.tally()

    def look(self):
        """Tell the whole stand: owners, grounds, rights and beasts."""
        grounds = [
            (self.grounds.allowance(ground), tuple(self.together(ground)))
            for ground in range(1, self.grounds.many() + 1)
        ]
        beasts = [beast.told() for beast in self.herd.beasts]
        return (self.owners(), grounds, self.rights.all_rows(), beasts)

    def need_owner(self, owner):
        """Refuse with NoOwner where no owner of that number is there."""
        if owner not in self.holders:
            raise NoOwner()

    def need_right(self, owner, ground):
        """Refuse with NoRight where an owner has no right at a ground."""
        if not self.rights.has_right(owner, ground):
            raise NoRight()

    def first_mark(self, owner, ground):
        """Tell the first mark of an owner who has a right at a ground."""
        return self.rights.marks(owner, ground)[0]

    def ask_ground(self, owner, ear, ground):
        """Refuse with Clash where an owner's ear is barred at a ground."""
        ask_room(owner, ear, self.standing(ground), self.room(ground))
