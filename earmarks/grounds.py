"""Grounds: what each allows, and which of them lie together."""

from earmarks.errors import Alone, BadAllowance, NoGround, Together

GREATEST_ALLOWANCE = 9


class Grounds:
    """Grounds, numbered from 1 on as they come."""

    def __init__(self):
        self.allowances = []
        # For each ground all that lie together with it, as a tuple: those share one.
        self.circles = []

    def add_ground(self, allowance):
        """Add a ground that lies alone, and tell its number; BadAllowance."""
        if not 0 <= allowance <= GREATEST_ALLOWANCE:
            raise BadAllowance()
        self.allowances.append(allowance)
        self.circles.append((self.many(),))
        return self.many()

    def has(self, ground):
        """Tell whether there is a ground of that number."""
        return 1 <= ground <= self.many()

    def many(self):
        """Tell how many grounds there are."""
        return len(self.allowances)

    def need(self, ground):
        """Refuse with NoGround where there is no ground of that number."""
        if not self.has(ground):
            raise NoGround()

    def allowance(self, ground):
        """Tell a ground's own allowance; NoGround."""
        self.need(ground)
        return self.allowances[ground - 1]

    def together(self, ground):
        """Tell all grounds that lie together with one, itself too, rising; NoGround."""
        self.need(ground)
        return list(self.circles[ground - 1])

    def room(self, ground):
        """Tell the greatest allowance of all that lie together with a ground; NoGround."""
        return max([self.allowance(near) for near in self.together(ground)])

    def unite(self, ground, other):
        """Lay two grounds together, and tell all that are so then; NoGround, Together."""
        ones = self.together(ground)
        others = self.together(other)
        if other in ones:
            raise Together()
        return self.enclose(sorted(ones + others))

    def part(self, ground):
        """Lay a ground alone, and tell those that it leaves; NoGround, Alone."""
        left = [near for near in self.together(ground) if near != ground]
        if not left:
            raise Alone()
        self.enclose([ground])
        return self.enclose(left)

    def enclose(self, grounds):
        """Let a rising list of grounds lie together without any other, and tell it."""
        circle = tuple(grounds)
        for ground in grounds:
            self.circles[ground - 1] = circle
        return grounds
