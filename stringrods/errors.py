"""The errors of the package, all of them under RodError."""


class RodError(ValueError):
    """The base of all errors of this package."""


class InvalidNumber(RodError):
    """What was given is no whole number."""

    def __init__(self, given):
        self.given = given


class InvalidFraction(RodError):
    """What was given is no fraction, or none from 0 on."""

    def __init__(self, given):
        self.given = given


class InvalidPoint(RodError):
    """What was given is no point."""

    def __init__(self, given):
        self.given = given


class InvalidPlane(RodError):
    """What was given is no plane."""

    def __init__(self, given):
        self.given = given


class InvalidRod(RodError):
    """What was given is no rod."""

    def __init__(self, given):
        self.given = given


class InvalidScrew(RodError):
    """What was given is no screw."""

    def __init__(self, given):
        self.given = given


class InvalidSurface(RodError):
    """What was given is no surface."""

    def __init__(self, given):
        self.given = given


class InvalidCubic(RodError):
    """What was given is no cubic."""

    def __init__(self, given):
        self.given = given


class InvalidTable(RodError):
    """What was given is no table."""

    def __init__(self, given):
        self.given = given


class InvalidIndex(RodError):
    """What was given is no index of what is there."""

    def __init__(self, given):
        self.given = given


class InvalidName(RodError):
    """What was given is no name."""

    def __init__(self, given):
        self.given = given


class InvalidWish(RodError):
    """What was given is no wish."""

    def __init__(self, given):
        self.given = given


class InvalidPhrase(RodError):
    """What was given is no phrase."""

    def __init__(self, given):
        self.given = given


class UnknownName(RodError):
    """What was given is no name that is known."""

    def __init__(self, given):
        self.given = given


class NotAWorkshop(RodError):
    """What was given is no workshop."""

    def __init__(self, given):
        self.given = given


class NotOnIt(RodError):
    """What was given is not on it."""

    def __init__(self, given):
        self.given = given


class InvalidLot(RodError):
    """The element at the index makes this no lot; None: it is no tuple."""

    def __init__(self, index):
        self.index = index


class InvalidPoints(RodError):
    """The element at the index makes these no such points; None: they are no such tuple."""

    def __init__(self, index):
        self.index = index


class InvalidRods(RodError):
    """The element at the index makes these no such rods; None: they are no tuple."""

    def __init__(self, index):
        self.index = index


class InUse(RodError):
    """The wish at the index names it."""

    def __init__(self, index):
        self.index = index


class Broken(RodError):
    """The wish at the index would not hold."""

    def __init__(self, index):
        self.index = index


class Same(RodError):
    """Both are one and the same."""


class Apart(RodError):
    """The rods do not meet."""


class Meeting(RodError):
    """Two of the rods meet."""


class Far(RodError):
    """What is far has no place here."""


class Parallel(RodError):
    """The rods are parallel."""


class NotJustOne(RodError):
    """There is none, or more than one."""


class NotSix(RodError):
    """The rods make no double six."""


class NotTold(RodError):
    """What is asked for is not told by fractions."""


class NotRigid(RodError):
    """The table is not rigid."""


class Flat(RodError):
    """It is flat, or a corner, or has one."""


class NothingToUndo(RodError):
    """No change can be taken back."""
