"""Plans where there are some, and knots where there are none."""

from onlyheard.aims import check_aim
from onlyheard.charts import Chart
from onlyheard.pairs import Pairs
from onlyheard.stands import choices


def written(play, aim):
    """A plan that holds for the aim, or a knot that refutes it."""
    check_aim(aim)
    pairs = Pairs(Chart(play), aim)
    lost = losses(pairs, [])
    if 0 in lost:
        return ("knot", _knot(pairs, lost))
    return ("plan", _plan(pairs, lost))


def is_planned(chart, aim):
    """Whether some plan holds for the aim; TooMany."""
    return 0 not in losses(Pairs(chart, aim), [])


def losses(pairs, barred):
    """The dict from the pairs that are lost to why, in the order in which they are found to be lost.

    `barred` is a list of pairs (path, block) of picks that may not be done, but not of all those of a line.
    Why is that of a part of a knot, with pairs in the place of the parts.
    """
    found = {}
    asked = list(range(len(pairs.pairs)))
    while len(asked) > 0:
        index = asked.pop()
        if index in found:
            continue
        why = _why(pairs, index, found, barred)
        if why is not None:
            found[index] = why
            asked.extend(pairs.earlier[index])
    return found


def _why(pairs, index, found, barred):
    """Why a pair is lost where some are found to be, None if it is not."""
    if pairs.broken[index]:
        return ("lost",)
    nexts = pairs.nexts[index]
    for noted, after in nexts.items():
        if noted[0] != "pick" and after in found:
            return ("then", noted, after)
    picks = [noted for noted in _picks(pairs, index) if (pairs.stands[index][1], noted[1]) not in barred]
    if len(picks) > 0 and all([nexts[noted] in found for noted in picks]):
        return ("open", tuple([nexts[noted] for noted in picks]))
    return None


def _picks(pairs, index):
    """The list of the notices of the picks that can be done, ascending; [] if it stands at no open line."""
    return [("pick", k) for k in range(choices(pairs.chart.own, pairs.stands[index]))]


def _plan(pairs, lost):
    """The plan of the pairs that are not lost, so far as it comes to them."""
    places = {0: 0}
    listed = [0]
    told = []
    while len(told) < len(listed):
        index = listed[len(told)]
        told.append(_told_nexts(pairs, index, lost))
        for after in told[-1].values():
            if after not in places:
                places[after] = len(listed)
                listed.append(after)
    return [_state(pairs, index, nexts, places) for index, nexts in zip(listed, told)]


def _told_nexts(pairs, index, lost):
    """The dict from the notices that come next to the pairs behind, of the picks only the first one not lost."""
    nexts = pairs.nexts[index]
    good = [noted for noted in _picks(pairs, index) if nexts[noted] not in lost]
    return {noted: after for noted, after in nexts.items() if noted[0] != "pick" or noted == good[0]}


def _state(pairs, index, nexts, places):
    numbers, left = pairs.pairs[index]
    picks = [noted[1] for noted in nexts if noted[0] == "pick"]
    pick = picks[0] if len(picks) > 0 else None
    behind = {noted: places[after] for noted, after in nexts.items()}
    return (pairs.stands[index], pairs.chart.worlds_of(numbers), left, pick, behind)


def _knot(pairs, lost):
    """The knot of the pairs that are lost, so far as the loss of the first one needs them."""
    needed = {0: True}
    listed = [0]
    index = 0
    while index < len(listed):
        for after in _needed(lost[listed[index]]):
            if after not in needed:
                needed[after] = True
                listed.append(after)
        index += 1
    # What a loss needs was found to be lost earlier, so that it gets a greater number here.
    parts = [after for after in list(lost)[::-1] if after in needed]
    places = {after: place for place, after in enumerate(parts)}
    return [_part(pairs, after, lost[after], places) for after in parts]


def _needed(why):
    """The list of the pairs that a loss needs."""
    if why[0] == "lost":
        return []
    return list(why[1]) if why[0] == "open" else [why[2]]


def _part(pairs, index, why, places):
    numbers, left = pairs.pairs[index]
    return (pairs.chart.worlds_of(numbers), left, _placed(why, places))


def _placed(why, places):
    if why[0] == "open":
        return ("open", tuple([places[after] for after in why[1]]))
    return ("then", why[1], places[why[2]]) if why[0] == "then" else why
