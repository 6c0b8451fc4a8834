"""Beasts: where each one stands and its story, and the herd of all of them."""

from earmarks.errors import Dead, NoBeast, Unmarked
from earmarks.stories import begun, gone_on


class Beast:
    """A beast: its story, and what that comes to so far."""

    def __init__(self, first):
        self.story = [first]
        self.mother = first[1] if first[0] == "born" else 0
        self.stand_so(begun(first))

    def stand_so(self, stand):
        """Take over a stand as stories tell it."""
        owner, ground, due, ear, alive = stand
        self.owner = owner
        self.ground = ground
        self.due = due
        self.ear = ear
        self.alive = alive

    def stand(self):
        """Tell the stand as stories tell it."""
        return (self.owner, self.ground, self.due, self.ear, self.alive)

    def befall(self, event):
        """Let something befall the beast."""
        # The story is the one source of the stand, so the two can't fall apart.
        self.story.append(event)
        self.stand_so(gone_on(self.stand(), event))

    def told(self):
        """Tell all of the beast as a tuple."""
        return self.stand() + (self.mother, tuple(self.story))


class Herd:
    """All beasts, dead ones too, numbered from 1 on as they come."""

    def __init__(self):
        self.beasts = []

    def add_beast(self, first):
        """Add a beast that came as the first tuple of its story tells, and tell its number."""
        self.beasts.append(Beast(first))
        return len(self.beasts)

    def known(self, number):
        """Tell the beast of a number; NoBeast."""
        if not 1 <= number <= len(self.beasts):
            raise NoBeast()
        return self.beasts[number - 1]

    def living(self, number):
        """Tell the living beast of a number; NoBeast, Dead."""
        beast = self.known(number)
        if not beast.alive:
            raise Dead()
        return beast

    def marked(self, number):
        """Tell the living beast of a number that was cut here; NoBeast, Dead, Unmarked."""
        beast = self.living(number)
        if beast.due is None:
            raise Unmarked()
        return beast

    def all_living(self):
        """Tell the pairs (number, beast) of all living beasts, by rising numbers."""
        return [(number, beast) for number, beast in enumerate(self.beasts, start=1) if beast.alive]

    def grazing(self, grounds):
        """Tell those pairs of the beasts that graze at the grounds of a list."""
        return [(number, beast) for number, beast in self.all_living() if beast.ground in grounds]

    def owned(self, owner):
        """Tell those pairs of an owner's beasts."""
        return [(number, beast) for number, beast in self.all_living() if beast.owner == owner]

    def calves(self, mother):
        """Tell those pairs of a beast's calves that were never cut here; NoBeast."""
        self.known(mother)
        return [
            (number, beast)
            for number, beast in self.all_living()
            if beast.mother == mother and beast.due is None
        ]

    def lead_calves(self, mother):
        """Let the calves that were never cut go along to their mother's owner and ground."""
        beast = self.known(mother)
        # Only what was cut bears, so no calf that goes along has calves of its own.
        for number, calf in self.calves(mother):
            calf.befall(("followed", beast.owner, beast.ground))

    def tally(self):
        """Tell (owner, ground, how many cut, how many not) of all living beasts, rising."""
        counts = {}
        for number, beast in self.all_living():
            spot = (beast.owner, beast.ground)
            cut, uncut = counts.get(spot, (0, 0))
            counts[spot] = (cut, uncut + 1) if beast.due is None else (cut + 1, uncut)
        return [spot + counts[spot] for spot in sorted(counts)]
