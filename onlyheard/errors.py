"""The errors of the package. What was wrong is told by the attribute `what`."""


class HeardError(ValueError):
    """The base class of all errors of the package."""

    def __init__(self, what=None):
        self.what = what


class BadRoutine(HeardError):
    """The value is not the top block of a routine; what: the first wrong path, or None for too many statements."""


class NoPath(HeardError):
    """The routine has no such path."""


class NoStand(HeardError):
    """The routine cannot stand so."""


class NoPick(HeardError):
    """There is no such block to pick."""


class NoTell(HeardError):
    """The stand is not at a tell."""


class NoPort(HeardError):
    """The stand does not listen at this port."""


class NoDigit(HeardError):
    """The value is not a digit."""


class BadRoutines(HeardError):
    """The value is not a dict of routines by their names."""


class BadOwn(HeardError):
    """The value is not the own routine, or its name."""


class BadOver(HeardError):
    """The value is not a tuple of overheard ports."""


class NoWorld(HeardError):
    """The play cannot be so."""


class NoMove(HeardError):
    """The move is not possible there."""


class BadRun(HeardError):
    """The value is not a run; what: the index of the first wrong item, or -1."""


class BadRow(HeardError):
    """The value is not a row of notices; what: the index of the first wrong item, or -1."""


class NoRow(HeardError):
    """No run has this row."""


class BadFact(HeardError):
    """The value is not a fact of the play."""


class BadAim(HeardError):
    """The value is not an aim."""


class BadPlan(HeardError):
    """The plan does not hold."""


class Overheard(HeardError):
    """Ports are overheard where none may be."""


class BadPicks(HeardError):
    """The value does not pick a block for each open line."""


class BadNames(HeardError):
    """The value is not a list of unlike names of routines."""


class BadText(HeardError):
    """The text cannot be read; what: the number of the first wrong line."""


class TooMany(HeardError):
    """There is more than the document allows; what: how many are allowed."""
