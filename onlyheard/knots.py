"""Knots, and the judge of them."""

from onlyheard.aims import check_aim, first_left, is_left, left_behind
from onlyheard.charts import Chart
from onlyheard.forms import head_of, is_integer
from onlyheard.notices import is_notice
from onlyheard.stands import choices

MOST_PARTS = 2000


def knot_fault(play, aim, knot):
    """None if a knot refutes an aim of a play, otherwise its first fault."""
    check_aim(aim)
    chart = Chart(play)
    if not isinstance(knot, list) or not 1 <= len(knot) <= MOST_PARTS:
        return ("form", -1)
    parts = []
    for index, item in enumerate(knot):
        part = _part_of(chart, aim, len(knot), item)
        if part is None:
            return ("form", index)
        parts.append(part)
    numbers, left, _ = parts[0]
    if _first_unwanted(numbers, chart.spread([chart.begin])) is not None or left != first_left(aim):
        return ("start",)
    for index in range(len(parts)):
        fault = _fault_of(chart, aim, parts, index)
        if fault is not None:
            return fault
    return None


def _part_of(chart, aim, many, value):
    """The part with the numbers of its worlds in their place.

    None if the value is not a part of a knot with so many ones.
    """
    if not isinstance(value, tuple) or len(value) != 3:
        return None
    some, left, why = value
    numbers = chart.numbers_of(some)
    if numbers is None or len(numbers) == 0 or not is_left(aim, left) or not _is_why(many, why):
        return None
    return (numbers, left, why)


def _is_why(many, value):
    head = head_of(value)
    if head == "lost":
        return len(value) == 1
    if head == "open":
        return len(value) == 2 and isinstance(value[1], tuple) and all([_is_number(many, part) for part in value[1]])
    if head != "then" or len(value) != 3:
        return False
    return is_notice(value[1]) and value[1][0] != "pick" and _is_number(many, value[2])


def _is_number(many, value):
    return is_integer(value) and 0 <= value < many


def _fault_of(chart, aim, parts, index):
    """The first fault of a part, None if there is none."""
    numbers, left, why = parts[index]
    around = chart.spread(numbers)
    if why[0] == "lost":
        is_lost = any([chart.breaks(number, aim, left) for number in around])
        return None if is_lost else ("lost", index)
    if why[0] == "open" and not _is_line(chart, numbers, len(why[1])):
        return ("line", index)
    pairs = _behind(why)
    if not all([part > index for _, part in pairs]):
        return ("later", index)
    if not all([parts[part][1] == left_behind(left, noted) for noted, part in pairs]):
        return ("left", index)
    for noted, part in pairs:
        wrong = _first_unwanted(parts[part][0], chart.spreads_behind(around).get(noted, ()))
        if wrong is not None:
            return ("world", index, chart.worlds[wrong])
    return None


def _is_line(chart, numbers, many):
    """Whether the own routine stands at an open line with so many blocks in each of some worlds."""
    return all([choices(chart.own, chart.stands[number]) == many for number in numbers]) and many > 0


def _behind(why):
    """The list of the pairs (notice, number of the part behind it)."""
    if why[0] == "then":
        return [(why[1], why[2])]
    return [(("pick", k), part) for k, part in enumerate(why[1])]


def _first_unwanted(numbers, wanted):
    """The first of some numbers that is none of the wanted ones, None if there is none."""
    known = set(wanted)
    for number in numbers:
        if number not in known:
            return number
    return None
