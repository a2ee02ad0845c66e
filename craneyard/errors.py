"""The refusals: one class for each kind of them, all straight under CraneError."""


class CraneError(ValueError):
    """Any refusal."""


class BadName(CraneError):
    """What should be a name is none."""


class BadNumber(CraneError):
    """What should be a number is none, or is beyond its bounds."""


class BadRail(CraneError):
    """There is no such rail."""


class BadStack(CraneError):
    """There are no such stacks."""


class BadPlaces(CraneError):
    """The places are none that are apart, or a stack has no place of the rail."""


class BadText(CraneError):
    """The text writes no yard; line is the row by which it is none."""

    def __init__(self, line):
        self.line = line


class Twice(CraneError):
    """A box of this name lies somewhere already."""


class NoCrane(CraneError):
    """No crane has this number."""


class NoStack(CraneError):
    """No stack has this name."""


class NoBox(CraneError):
    """No box has this name."""


class NoJob(CraneError):
    """No job has this number."""


class Same(CraneError):
    """The box lies on this very stack."""


class Buried(CraneError):
    """The box isn't the uppermost one."""


class TooHigh(CraneError):
    """The stack would have too many boxes."""


class TooHeavy(CraneError):
    """The boxes of the stack would weigh too much."""


class Empty(CraneError):
    """The stack has no box."""


class NoReach(CraneError):
    """No crane that may have the job reaches both stacks."""


class BadJournal(CraneError):
    """The lines can't be done again; place is that of the first one that isn't."""

    def __init__(self, place):
        self.place = place
