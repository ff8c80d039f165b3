"""Aims, and the dealings that they leave."""

from onlyheard.errors import BadAim
from onlyheard.forms import is_integer
from onlyheard.stands import choices

MOST_DEALINGS = 40


def is_aim(value):
    """Whether the value is an aim."""
    if isinstance(value, str):
        return value == "safe" or value == "going"
    return is_integer(value) and 0 <= value <= MOST_DEALINGS


def check_aim(value):
    """Raises BadAim unless the value is an aim."""
    if not is_aim(value):
        raise BadAim(value)


def first_left(aim):
    """How many dealings an aim leaves at the begin, None if it does not count them."""
    return None if isinstance(aim, str) else aim


def is_left(aim, value):
    """Whether the value can be the dealings that are left of an aim."""
    if isinstance(aim, str):
        return value is None
    return is_integer(value) and 0 <= value <= aim


def left_behind(left, noted):
    """How many dealings are left behind a move with this notice, or None."""
    if left is None or noted is None or (noted[0] != "told" and noted[0] != "heard"):
        return left
    return left - 1


def is_dealing(routine, stand):
    """Whether the routine stands at a tell, a hear or a wait."""
    return stand[0] == "at" and choices(routine, stand) == 0
