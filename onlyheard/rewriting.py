"""Routines that deal as plans tell."""

from onlyheard.aims import check_aim
from onlyheard.charts import Chart
from onlyheard.errors import BadNames, Overheard, TooMany
from onlyheard.plans import check_plan
from onlyheard.plays import Play
from onlyheard.routines import Routine
from onlyheard.stands import HOME, listens, tells
from onlyheard.writing import written

MOST_STATES = 40


def as_routine(play, plan):
    """A routine without open lines that deals as the plan tells."""
    check_plan(play, plan)
    if len(play.over) > 0:
        raise Overheard(play.over)
    if len(plan) > MOST_STATES:
        raise TooMany(MOST_STATES)
    nexts = _nexts_by_states(Chart(play), plan)
    own = play.routines[play.own]
    places = {index: place for place, index in enumerate(nexts)}
    blocks = [_dealing(own, plan[index][0], _placed(nexts[index], places)) for index in nexts]
    # A place is told by two digits, both of them 0 at the begin.
    tens = [_chosen("ones", 0, blocks[place:place + 10]) for place in range(0, len(blocks), 10)]
    return Routine((("repeat", _chosen("tens", 0, tens)),))


def in_turn(play, names, aim):
    """Writes out several routines, one behind the other."""
    _check_names(play, names)
    check_aim(aim)
    routines = play.routines
    for name in names:
        turn = Play(routines, name)
        word, found = written(turn, aim)
        if word == "knot":
            return ("knot", name, turn, found)
        routines[name] = as_routine(turn, found)
    return ("done", Play(routines, play.own, play.over))


def _check_names(play, value):
    """Raises the BadNames that is due."""
    known = play.names()
    if not isinstance(value, list) or not all([item in known for item in value]):
        raise BadNames(value)
    if len(set(value)) < len(value):
        raise BadNames(value)


def _nexts_by_states(chart, plan):
    """The dict from the states that deal, or are home, to the dicts from the notices to the next ones of these.

    The one that the plan comes to first goes first. Only what can be noticed is followed: what else a plan
    tells can lead anywhere, also in a circle of open lines.
    """
    listed = [_settled(plan, 0)]
    found = {}
    while len(found) < len(listed):
        index = listed[len(found)]
        _, some, _, _, behind = plan[index]
        notices = sorted(chart.spreads_behind(tuple(chart.numbers_of(some))))
        found[index] = {noted: _settled(plan, behind[noted]) for noted in notices}
        for after in found[index].values():
            if after not in listed:
                listed.append(after)
    return found


def _settled(plan, index):
    """The state behind a state that the told picks alone lead to, up to no open line."""
    while plan[index][3] is not None:
        index = plan[index][4][("pick", plan[index][3])]
    return index


def _placed(nexts, places):
    return {noted: places[index] for noted, index in nexts.items()}


def _dealing(own, stand, nexts):
    """The block that deals as the own routine at a stand; `nexts` is the dict from the notices to the next places."""
    if stand == HOME:
        return (HOME,)
    pair = tells(own, stand)
    if pair is not None:
        port, digit = pair
        return (("tell", port, digit), *_moved_on(nexts, ("told", port)))
    return (("wait", tuple([(port, "digit", _sorted_out(nexts, port)) for port in listens(own, stand)])),)


def _sorted_out(nexts, port):
    """The block that goes on by the digit that was heard at a port."""
    found = []
    for digit in range(10):
        if ("heard", port, digit) in nexts:
            test = ("same", ("name", "digit"), digit)
            found.append(("if", test, _moved_on(nexts, ("heard", port, digit)), ()))
    # The digit is forgotten, so that the routine has no more stands than the plan has states.
    return (*found, ("set", "digit", 0))


def _moved_on(nexts, noted):
    """The block that goes on to the place behind a notice."""
    if noted not in nexts:
        return ()
    return (("set", "tens", nexts[noted] // 10), ("set", "ones", nexts[noted] % 10))


def _chosen(name, first, blocks):
    """The block that does one of some blocks by the value of a name, the first one at the value `first`."""
    if len(blocks) == 1:
        return blocks[0]
    half = len(blocks) // 2
    test = ("less", ("name", name), first + half)
    return (("if", test, _chosen(name, first, blocks[:half]), _chosen(name, first + half, blocks[half:])),)
