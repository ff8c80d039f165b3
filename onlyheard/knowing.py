"""What the own routine knows behind what it noticed."""

from onlyheard.errors import BadFact, BadRun, NoRow
from onlyheard.forms import head_of, is_digit
from onlyheard.notices import check_row, reached, row_of
from onlyheard.stands import HOME, is_stand
from onlyheard.ways import Ways, run_to, steps_of, walked


def knows(play, row, fact):
    """Whether a fact is so behind a row: always, never, or behind one run and not behind another one."""
    _check(play, row, fact)
    return known_behind(play, row, fact)


def known_behind(play, row, fact):
    """The same for a row of any length and a fact of the play; TooMany, NoRow."""
    found = _reached(play, row)
    so = _ends(play, row, fact, found, True)
    not_so = _ends(play, row, fact, found, False)
    if len(not_so) == 0:
        return ("always",)
    if len(so) == 0:
        return ("never",)
    return ("both", run_to(found, so[0]), run_to(found, not_so[0]))


def knows_fault(play, row, fact, answer):
    """None if the answer is what `knows` may return, otherwise its first fault."""
    right = knows(play, row, fact)
    if answer == ("always",) or answer == ("never",):
        return None if answer == right else ("other",)
    if head_of(answer) != "both" or len(answer) != 3:
        return ("form",)
    return _runs_fault(play, row, fact, answer[1:])


def is_fact(play, value):
    """Whether the value is a fact of the play."""
    head = head_of(value)
    lengths = {"value": 4, "stands": 3, "home": 2}
    if head not in lengths or len(value) != lengths[head] or value[1] not in play.names():
        return False
    routine = play.routines[value[1]]
    if head == "value":
        return value[2] in routine.names() and is_digit(value[3])
    # Where it can stand at all, it can with all names at 0.
    return head == "home" or is_stand(routine, ("at", value[2], (0,) * len(routine.names())))


def is_so(play, world, fact):
    """Whether a fact is so in a world."""
    stand = world[play.names().index(fact[1])]
    if fact[0] == "home":
        return stand == HOME
    if stand[0] != "at":
        return False
    if fact[0] == "stands":
        return stand[1] == fact[2]
    return stand[2][play.routines[fact[1]].names().index(fact[2])] == fact[3]


def _check(play, row, fact):
    check_row(row)
    if not is_fact(play, fact):
        raise BadFact(fact)


def _reached(play, row):
    """What `reached` tells; TooMany, NoRow."""
    ways = Ways(play)
    walked(ways)
    found = reached(ways, row)
    if not any([many == len(row) for many, _ in found]):
        raise NoRow(row)
    return found


def _ends(play, row, fact, found, wanted):
    """The list of the places at the end of the row at which the fact is so, or is not, as wanted."""
    ends = [place for place in found if place[0] == len(row)]
    return [place for place in ends if is_so(play, place[1], fact) == wanted]


def _runs_fault(play, row, fact, runs):
    """The first fault of the two runs of an answer, None if there is none."""
    if not all([isinstance(run, list) for run in runs]):
        return ("form",)
    ways = Ways(play)
    # Runs of an answer may be of any length: only what is passed as a run has a bound.
    try:
        both = [steps_of(ways, run) for run in runs]
    except BadRun:
        return ("form",)
    for index, steps in enumerate(both):
        if row_of(steps) != row:
            return ("row", index)
    for index, steps in enumerate(both):
        world = steps[-1][1] if len(steps) > 0 else ways.first()
        if is_so(play, world, fact) != (index == 0):
            return ("fact", index)
    return None
