"""Plans, and the judge of them."""

from onlyheard.aims import MOST_DEALINGS, check_aim, first_left, is_dealing, is_left, left_behind
from onlyheard.charts import Chart
from onlyheard.errors import BadPlan
from onlyheard.forms import is_integer
from onlyheard.stands import choices, is_stand

MOST_STATES = 2000


def plan_fault(play, aim, plan):
    """None if a plan holds for a play and an aim, otherwise its first fault."""
    check_aim(aim)
    chart = Chart(play)
    if not isinstance(plan, list) or not 1 <= len(plan) <= MOST_STATES:
        return ("form", -1)
    states = []
    for index, item in enumerate(plan):
        state = _state_of(chart, aim, len(plan), item)
        if state is None:
            return ("form", index)
        states.append(state)
    _, placed, left, _, _ = states[0]
    if chart.begin not in placed or left != first_left(aim):
        return ("start",)
    for index in range(len(states)):
        fault = _fault_of(chart, aim, states, index)
        if fault is not None:
            return fault
    return None


def check_plan(play, value):
    """Raises BadPlan unless the value is a plan that holds for "safe" or for the number that it names."""
    aim = _aim_of(value)
    if aim is None or plan_fault(play, aim, value) is not None:
        raise BadPlan(value)


def _aim_of(value):
    """The aim that state 0 of a plan names, None if none."""
    if not isinstance(value, list) or len(value) == 0 or not _is_like_state(value[0]):
        return None
    left = value[0][2]
    if left is None:
        return "safe"
    return left if is_left(MOST_DEALINGS, left) else None


def _is_like_state(value):
    return isinstance(value, tuple) and len(value) == 5


def _state_of(chart, aim, many, value):
    """The state with a dict from the numbers of its worlds in their place.

    None if the value is not a state of a plan with so many ones.
    """
    if not _is_like_state(value):
        return None
    stand, some, left, pick, nexts = value
    numbers = chart.numbers_of(some)
    if numbers is None or not is_stand(chart.own, stand) or not is_left(aim, left):
        return None
    if not _is_pick(choices(chart.own, stand), pick) or not _are_nexts(many, nexts):
        return None
    return (stand, {number: True for number in numbers}, left, pick, nexts)


def _is_pick(many, value):
    if many == 0:
        return value is None
    return is_integer(value) and 0 <= value < many


def _are_nexts(many, value):
    if not isinstance(value, dict):
        return False
    return all([is_integer(number) and 0 <= number < many for number in value.values()])


def _fault_of(chart, aim, states, index):
    """The first fault of a state, None if there is none."""
    stand, placed, left, _, _ = states[index]
    for number in placed:
        if chart.stands[number] != stand:
            return ("own", index, chart.worlds[number])
    for number in placed:
        if chart.breaks(number, aim, None):
            return ("lost", index, chart.worlds[number])
    if left == 0 and is_dealing(chart.own, stand):
        return ("left", index)
    for number in placed:
        for move, noted, after in chart.steps[number]:
            if noted is None and after not in placed:
                return ("unseen", index, chart.worlds[number], move)
    for number in placed:
        for move, noted, after in chart.steps[number]:
            if noted is not None and not _is_seen_to(states, index, noted, after):
                return ("noticed", index, chart.worlds[number], move)
    return None


def _is_seen_to(states, index, noted, after):
    """Whether the plan tells what comes behind a move with a notice, so far as it must."""
    _, _, left, pick, nexts = states[index]
    if noted[0] == "pick" and noted[1] != pick:
        return True
    if noted not in nexts:
        return False
    _, placed_then, left_then, _, _ = states[nexts[noted]]
    return after in placed_then and left_then == left_behind(left, noted)
