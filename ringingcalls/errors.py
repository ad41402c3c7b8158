"""The refusals of the program.

Each has words of its own: what was handed in may be anything, and is kept
as it is, never shown.
"""


class RingError(ValueError):
    """What was handed in is none of what it should be."""


class NoNames(RingError):
    """No dict of names to names, or one that leads two to one."""

    def __init__(self, thing):
        RingError.__init__(self, "no dict of names")
        self.thing = thing


class NoSort(RingError):
    """No sort of asking."""

    def __init__(self, thing):
        RingError.__init__(self, "no sort of asking")
        self.thing = thing


class NoWord(RingError):
    """No word of this sort of asking."""

    def __init__(self, thing):
        RingError.__init__(self, "no word of this sort")
        self.thing = thing


class NoNumber(RingError):
    """No number within its bounds."""

    def __init__(self, thing):
        RingError.__init__(self, "no number within its bounds")
        self.thing = thing


class NoGroups(RingError):
    """No groups of targets."""

    def __init__(self, thing):
        RingError.__init__(self, "no groups of targets")
        self.thing = thing


class NoTarget(RingError):
    """No target, or none of those asked."""

    def __init__(self, thing):
        RingError.__init__(self, "no such target")
        self.thing = thing


class NoRank(RingError):
    """No rank."""

    def __init__(self, thing):
        RingError.__init__(self, "no rank")
        self.thing = thing


class NoRole(RingError):
    """No role in a talk."""

    def __init__(self, thing):
        RingError.__init__(self, "no role in a talk")
        self.thing = thing


class NoTruth(RingError):
    """Neither True nor False."""

    def __init__(self, thing):
        RingError.__init__(self, "neither True nor False")
        self.thing = thing


class NoWorld(RingError):
    """No devices and houses of a world."""

    def __init__(self, thing):
        RingError.__init__(self, "no world")
        self.thing = thing


class NoDeed(RingError):
    """No deed of this world."""

    def __init__(self, thing):
        RingError.__init__(self, "no deed")
        self.thing = thing


class NoLetter(RingError):
    """No letter, or none that is here."""

    def __init__(self, thing):
        RingError.__init__(self, "no such letter")
        self.thing = thing


class NoRule(RingError):
    """No rules that can be left out."""

    def __init__(self, thing):
        RingError.__init__(self, "no such rule")
        self.thing = thing


class NoText(RingError):
    """No written letter or weaving; row tells where, None of no single row."""

    def __init__(self, row):
        RingError.__init__(self, "not written so")
        self.row = row


class NoRow(RingError):
    """No row for a desk."""


class NoName(KeyError):
    """No name, or none that is known."""

    def __init__(self, thing):
        KeyError.__init__(self, "no such name")
        self.thing = thing


class NoCall(LookupError):
    """No call that this device began and keeps."""

    def __init__(self, thing):
        LookupError.__init__(self, "no such call")
        self.thing = thing


class NoRing(LookupError):
    """No ring that came and has no end."""

    def __init__(self, thing):
        LookupError.__init__(self, "no such ring")
        self.thing = thing


class NoTalk(LookupError):
    """No talk that can be told this."""

    def __init__(self, thing):
        LookupError.__init__(self, "no such talk")
        self.thing = thing


class TooMany(OverflowError):
    """More than there may be; many tells how many."""

    def __init__(self, many):
        OverflowError.__init__(self, "too many")
        self.many = many


class Busy(RuntimeError):
    """A talk's own change is under way, or to come again."""
