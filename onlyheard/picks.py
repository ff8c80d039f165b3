"""What picks can bring about: runs that break an aim, fixed picks, and picks that are needed."""

from onlyheard.aims import MOST_DEALINGS, check_aim, first_left, is_left, left_behind
from onlyheard.charts import Chart
from onlyheard.errors import BadAim, BadPicks, NoPath, NoPick, TooMany
from onlyheard.forms import blocks_of, is_integer, is_path, with_blocks
from onlyheard.pairs import Pairs
from onlyheard.routines import Routine
from onlyheard.ways import run_to
from onlyheard.writing import is_planned, losses

MOST_PLACES = 400
MOST_TUPLES = 256


def breaking(play, aim):
    """The first one of the shortest runs that break the aim, None if there is none."""
    check_aim(aim)
    chart = Chart(play)
    return _breaking(chart, aim, _lines(chart.own))


def fixed(play, aim):
    """The first fixed picks with which no run breaks the aim, None if there are none."""
    check_aim(aim)
    lines = _lines(play.routines[play.own])
    many = _count_tuples(lines)
    if many > MOST_TUPLES:
        raise TooMany(MOST_TUPLES)
    chart = Chart(play)
    _places(chart, aim, lines)
    for index in range(many):
        picks = _picks_at(lines, index)
        if _breaking(chart, aim, {path: [k] for path, k in picks.items()}) is None:
            return picks
    return None


def fixed_play(play, picks):
    """The play in which each open line of the own routine has just the picked block."""
    own = play.routines[play.own]
    if not _are_picks(_lines(own), picks):
        raise BadPicks(picks)
    return play.with_own(_with_lines(own, {path: [k] for path, k in picks.items()}))


def least_home(play, *, most=12):
    """The least number of dealings for which a plan holds, None if there is none up to `most`."""
    if not is_left(MOST_DEALINGS, most):
        raise BadAim(most)
    chart = Chart(play)
    if not is_planned(chart, most):
        return None
    aim = 0
    while not is_planned(chart, aim):
        aim += 1
    return aim


def struck(play, path, k):
    """The play in which a block of an open line of the own routine is left out."""
    own = play.routines[play.own]
    lines = _lines(own)
    if not is_path(path) or path not in lines:
        raise NoPath(path)
    if not is_integer(k) or k not in lines[path] or len(lines[path]) == 1:
        raise NoPick(k)
    return play.with_own(_with_lines(own, {path: [other for other in lines[path] if other != k]}))


def needed(play, aim):
    """The ascending list of the pairs (path, block) without which no plan holds, though one does with them."""
    check_aim(aim)
    pairs = Pairs(Chart(play), aim)
    if 0 in losses(pairs, []):
        return []
    lines = _lines(pairs.chart.own)
    return [(path, k) for path in lines if len(lines[path]) > 1 for k in lines[path] if 0 in losses(pairs, [(path, k)])]


def alone(play, aim):
    """The ascending list of the pairs (path, block) such that some plan does this block each time at this line."""
    check_aim(aim)
    pairs = Pairs(Chart(play), aim)
    lines = _lines(pairs.chart.own)
    return [(path, k) for path in lines for k in lines[path] if 0 not in losses(pairs, _others(lines, path, k))]


def _others(lines, path, k):
    """The list of the picks of all other blocks at a line."""
    return [(path, other) for other in lines[path] if other != k]


def _lines(routine):
    """The dict from the paths of the open lines to the lists of the numbers of their blocks."""
    return {path: list(range(len(blocks_of(routine.statement(path))))) for path in routine.open_lines()}


def _breaking(chart, aim, lines):
    """The first one of the shortest runs with some picks of the own routine that break the aim; TooMany."""
    found = _places(chart, aim, lines)
    for place in found:
        if chart.breaks(place[0], aim, place[1]):
            return run_to(found, place)
    return None


def _places(chart, aim, lines):
    """The dict from the places that runs come to, nearer ones first, to how they first come there; TooMany.

    A place is the pair of a world and of the dealings left. How they come there is the pair of the place ahead
    and the move from there, None for the first place. `lines` tells the picks of the own routine that can be done.
    """
    start = (chart.begin, first_left(aim))
    found = {start: None}
    listed = [start]
    index = 0
    while index < len(listed):
        for move, noted, number in _steps(chart, aim, listed[index], lines):
            place = (number, left_behind(listed[index][1], noted))
            if place not in found:
                found[place] = (listed[index], move)
                listed.append(place)
        if len(listed) > MOST_PLACES:
            raise TooMany(MOST_PLACES)
        index += 1
    return found


def _steps(chart, aim, place, lines):
    """The list of the steps from a place, none where a run has broken the aim."""
    number, left = place
    if chart.breaks(number, aim, left):
        return []
    return [step for step in chart.steps[number] if _can_be(chart.stands[number], step[1], lines)]


def _can_be(stand, noted, lines):
    """Whether a move with a notice is none of the picks at an open line that cannot be done."""
    return noted is None or noted[0] != "pick" or noted[1] in lines[stand[1]]


def _count_tuples(lines):
    """The number of the tuples of picks, or one more than there may be."""
    many = 1
    for numbers in lines.values():
        many = min(many * len(numbers), MOST_TUPLES + 1)
    return many


def _picks_at(lines, index):
    """The picks with the index among all the tuples of picks, ascending."""
    found = {}
    rest = index
    for path in list(lines)[::-1]:
        found[path] = rest % len(lines[path])
        rest = rest // len(lines[path])
    return {path: found[path] for path in lines}


def _are_picks(lines, value):
    if not isinstance(value, dict) or len(value) != len(lines):
        return False
    # A flag in a key or a value would pass for an integer in the look-up.
    if not all([is_path(path) and path in lines for path in value]):
        return False
    return all([is_integer(k) and k in lines[path] for path, k in value.items()])


def _with_lines(routine, lines):
    """The routine with some blocks of some of its open lines alone."""
    return Routine(_block_with_lines(routine.block, (), lines))


def _block_with_lines(block, path, lines):
    found = []
    for index, statement in enumerate(block):
        here = path + (index,)
        blocks = blocks_of(statement)
        numbers = lines.get(here, list(range(len(blocks))))
        found.append(with_blocks(statement, [_block_with_lines(blocks[k], here + (k,), lines) for k in numbers]))
    return tuple(found)
