"""Plays: routines beside one another, one of them the own one, and the ports that are overheard."""

from onlyheard.errors import BadOver, BadOwn, BadRoutines
from onlyheard.forms import is_name
from onlyheard.routines import Routine

FEWEST_ROUTINES = 2
MOST_ROUTINES = 4


class Play:
    """A play. Its attributes are `routines`, `own` and `over`."""

    def __init__(self, routines, own, over=()):
        _check_routines(routines)
        # A list or a dict cannot be looked up in a dict.
        if own not in list(routines):
            raise BadOwn(own)
        if not is_over(over):
            raise BadOver(over)
        self._routines = {name: routines[name] for name in sorted(routines)}
        self.own = own
        self.over = over

    def __eq__(self, other):
        if not isinstance(other, Play):
            return False
        return self._routines == other._routines and self.own == other.own and self.over == other.over

    @property
    def routines(self):
        """A new dict from the names to the routines."""
        return dict(self._routines)

    def names(self):
        """The ascending list of the names of its routines."""
        return list(self._routines)

    def ports(self):
        """The ascending list of all ports of its routines."""
        return sorted({port for routine in self._routines.values() for port in routine.ports()})

    def with_over(self, over):
        """The play in which these ports are overheard instead."""
        return Play(self._routines, self.own, over)

    def with_own(self, routine):
        """The play with this routine in the place of the own one."""
        if not isinstance(routine, Routine):
            raise BadOwn(routine)
        routines = dict(self._routines)
        routines[self.own] = routine
        return Play(routines, self.own, self.over)


def _check_routines(value):
    """Raises the BadRoutines that is due."""
    if not isinstance(value, dict) or not FEWEST_ROUTINES <= len(value) <= MOST_ROUTINES:
        raise BadRoutines(None)
    if not all([is_name(name) for name in value]):
        raise BadRoutines(None)
    for name in sorted(value):
        if not isinstance(value[name], Routine):
            raise BadRoutines(name)


def is_over(value):
    """Whether the value is an ascending tuple of names."""
    if not isinstance(value, tuple) or not all([is_name(port) for port in value]):
        return False
    return list(value) == sorted(set(value))
