"""Where routines come to stand, and how they go on from there."""

from onlyheard.errors import NoDigit, NoPath, NoPick, NoPort, NoStand, NoTell
from onlyheard.forms import blocks_of, is_digit, is_integer, ports_of
from onlyheard.steps import STANDING, entered, settled, value_of

HOME = ("home",)


def begun(routine):
    """The stand that the routine comes to first."""
    path = (0,) if len(routine.block) > 0 else None
    return settled(routine, path, {name: 0 for name in routine.names()})


def picked(routine, stand, k):
    """The stand behind an open line where block k is done."""
    many = choices(routine, stand)
    if not is_integer(k) or not 0 <= k < many:
        raise NoPick(k)
    return settled(routine, entered(routine, stand[1], k), _held(routine, stand))


def told(routine, stand):
    """The stand behind a tell."""
    if tells(routine, stand) is None:
        raise NoTell(stand)
    return settled(routine, routine.follower(stand[1]), _held(routine, stand))


def heard(routine, stand, port, digit):
    """The stand behind a hear or a wait, where the digit was heard at the port."""
    if port not in listens(routine, stand):
        raise NoPort(port)
    if not is_digit(digit):
        raise NoDigit(digit)
    path = stand[1]
    statement = routine.statement(path)
    held = _held(routine, stand)
    if statement[0] == "hear":
        held[statement[2]] = digit
        return settled(routine, routine.follower(path), held)
    number = ports_of(statement).index(port)
    held[statement[1][number][1]] = digit
    return settled(routine, entered(routine, path, number), held)


def tells(routine, stand):
    """The pair (port, digit) of what the routine would tell, None if it is not at a tell."""
    statement = _statement_at(routine, stand)
    if statement[0] != "tell":
        return None
    return (statement[1], value_of(statement[2], _held(routine, stand)))


def listens(routine, stand):
    """The ascending list of the ports at which the routine would hear."""
    statement = _statement_at(routine, stand)
    return [] if statement[0] == "tell" else sorted(ports_of(statement))


def choices(routine, stand):
    """The number of the blocks of the open line at which the routine stands, 0 at none."""
    statement = _statement_at(routine, stand)
    return len(blocks_of(statement)) if statement[0] == "open" else 0


def is_stand(routine, value):
    """Whether the value is a stand of the routine that can be."""
    if not isinstance(value, tuple):
        return False
    if len(value) == 2:
        return value[0] == "fail" and _head_at(routine, value[1]) == "fail"
    if len(value) == 3:
        at_path = value[0] == "at" and _head_at(routine, value[1]) in STANDING
        return at_path and _are_values(routine, value[2])
    return value == HOME


def _head_at(routine, path):
    try:
        return routine.statement(path)[0]
    except NoPath:
        return ""


def _are_values(routine, value):
    if not isinstance(value, tuple) or len(value) != len(routine.names()):
        return False
    return all([is_digit(digit) for digit in value])


def _statement_at(routine, stand):
    """The statement at which the routine stands, has failed, or is home; NoStand."""
    if not is_stand(routine, stand):
        raise NoStand(stand)
    return HOME if stand == HOME else routine.statement(stand[1])


def _held(routine, stand):
    """The dict from the names of the routine to their values at a stand."""
    return dict(zip(routine.names(), stand[2]))
