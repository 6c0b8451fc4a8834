"""Rights: which owner has which marks at which grounds."""

from earmarks.errors import HasRight, NoRight


class Rights:
    """Rows (owner, ground, mark) in the order in which they came, no row twice."""

    def __init__(self):
        # The rows are the keys: a dict keeps them in order, and each once.
        self.held = {}

    def all_rows(self):
        """Tell all rights as they came."""
        return list(self.held)

    def add_right(self, owner, ground, mark):
        """Add a right behind all others; HasRight where that very right is there."""
        row = (owner, ground, mark)
        if row in self.held:
            raise HasRight()
        self.held[row] = True

    def marks(self, owner, ground):
        """Tell an owner's marks at a ground as they came."""
        return [mark for holder, where, mark in self.held if holder == owner and where == ground]

    def has_right(self, owner, ground):
        """Tell whether an owner has any right at a ground."""
        return len(self.marks(owner, ground)) > 0

    def drop(self, owner, ground):
        """Take away all rights of an owner at a ground, and tell their marks; NoRight."""
        gone = self.marks(owner, ground)
        if not gone:
            raise NoRight()
        for mark in gone:
            del self.held[(owner, ground, mark)]
        return gone

    def hand_over(self, elder, heir):
        """Make all rights of the elder the heir's, each in its place."""
        # A key that comes again stays where it first stood: so the foremost row is kept.
        self.held = {
            (heir if owner == elder else owner, ground, mark): True
            for owner, ground, mark in self.held
        }

    def in_grounds(self, grounds):
        """Tell the pairs (owner, mark) of all rights at the grounds of a list, as they came."""
        return [(owner, mark) for owner, ground, mark in self.held if ground in grounds]
