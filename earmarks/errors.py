"""The refusals: one class for each, all straight under CommonError."""


class CommonError(ValueError):
    """Any refusal."""


class BadEar(CommonError):
    """What was told is no ear, or the text writes none."""


class Bare(CommonError):
    """A mark has no cut."""


class BadAllowance(CommonError):
    """An allowance is not from 0 to 9."""


class BadExtra(CommonError):
    """An heir's further cuts are not from 1 to 3."""


class NoPlace(CommonError):
    """A place is not from 0 to 5."""


class Deepest(CommonError):
    """A cut is as deep already as one can be."""


class NoOwner(CommonError):
    """There is no owner of that number, or they are gone."""


class NoGround(CommonError):
    """There is no ground of that number."""


class NoBeast(CommonError):
    """There is no beast of that number."""


class NoRight(CommonError):
    """The owner has no right at that ground."""


class HasRight(CommonError):
    """That very right is there already."""


class StillThere(CommonError):
    """A living beast of the owner still grazes at that ground."""


class Dead(CommonError):
    """The beast is dead."""


class Unmarked(CommonError):
    """The beast was never cut here."""


class SameOwner(CommonError):
    """Both owners are one."""


class SameGround(CommonError):
    """The beast grazes at that ground already."""


class Together(CommonError):
    """The grounds lie together already."""


class Alone(CommonError):
    """The ground lies alone already."""


class NoneFree(CommonError):
    """No offspring of the mark is free."""


class BadDeed(CommonError):
    """The tuple tells no deed."""


class BadLine(CommonError):
    """The line writes no deed."""


class NoStand(CommonError):
    """There is no such stand to go back to."""


class Clash(CommonError):
    """An ear meets a standing one of another owner."""

    def __init__(self, ones, others, ear):
        self.ones = ones
        self.others = others
        self.ear = ear


class BadPage(CommonError):
    """A line of the page writes no deed, or its deed is refused."""

    def __init__(self, at):
        self.at = at
