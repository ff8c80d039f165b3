"""Which ports would have to be overheard."""

from onlyheard.aims import check_aim
from onlyheard.charts import Chart
from onlyheard.errors import TooMany
from onlyheard.writing import is_planned

MOST_PORTS = 6


def least_over(play, aim):
    """The ascending list of the least tuples of ports with which overheard a plan holds."""
    planned = _planned(play, aim)
    return _least([over for over in planned if planned[over]])


def least_deaf(play, aim):
    """The ascending list of the least tuples of ports with all others of which overheard no plan holds."""
    planned = _planned(play, aim)
    ports = play.ports()
    return _least([deaf for deaf in planned if not planned[tuple([port for port in ports if port not in deaf])]])


def _planned(play, aim):
    """The dict from all tuples of ports of the play to whether a plan holds where these are overheard."""
    check_aim(aim)
    ports = play.ports()
    if len(ports) > MOST_PORTS:
        raise TooMany(MOST_PORTS)
    return {over: is_planned(Chart(play.with_over(over)), aim) for over in _tuples(ports)}


def _tuples(ports):
    """The list of all ascending tuples of some of the ports, which are ascending."""
    found = [()]
    for port in ports:
        found = found + [(*some, port) for some in found]
    return found


def _least(found):
    return sorted([some for some in found if not any([_is_within(other, some) for other in found])])


def _is_within(other, some):
    """Whether another tuple has some, but not all, of the ports of a tuple."""
    return other != some and all([port in some for port in other])
