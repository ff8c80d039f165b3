"""What the own routine notices, and which worlds may be behind what it noticed."""

from onlyheard.charts import Chart
from onlyheard.errors import BadRow
from onlyheard.forms import head_of, is_digit, is_integer, is_name
from onlyheard.ways import Ways, check_run, steps_of
from onlyheard.worlds import way_of

LONGEST_ROW = 60


def notice(play, world, move):
    """What the own routine notices of a move, None if nothing."""
    return way_of(play, world, move)[0]


def noticed(play, run):
    """The row of a run."""
    check_run(run)
    return row_of(steps_of(Ways(play), run))


def may_be(play, row):
    """The ascending list of all worlds at which runs with just this row end."""
    check_row(row)
    return worlds_behind(play, row)


def worlds_behind(play, row):
    """The same for a row of any length."""
    chart = Chart(play)
    numbers = chart.spread([chart.begin])
    for noted in row:
        numbers = chart.spreads_behind(numbers).get(noted, ())
    return list(chart.worlds_of(numbers))


def row_of(steps):
    """The list of the notices of the steps of a run."""
    return [noted for noted, _ in steps if noted is not None]


def is_notice(value):
    """Whether the value has the form of a notice."""
    head = head_of(value)
    if head == "pick":
        return len(value) == 2 and is_integer(value[1]) and value[1] >= 0
    if head == "told":
        return len(value) == 2 and is_name(value[1])
    if head == "heard" or head == "over":
        return len(value) == 3 and is_name(value[1]) and is_digit(value[2])
    return False


def check_row(value):
    """Raises the BadRow that is due."""
    if not isinstance(value, list) or len(value) > LONGEST_ROW:
        raise BadRow(-1)
    for index, item in enumerate(value):
        if not is_notice(item):
            raise BadRow(index)


def reached(ways, row):
    """The dict from the places that runs come to along a row to how they first came there.

    A place is the pair of how many notices of the row have come, and the world. How runs came
    there is the pair of the place ahead of it and the move from there, None for the first place.
    """
    start = (0, ways.first())
    found = {start: None}
    listed = [start]
    index = 0
    while index < len(listed):
        many, world = listed[index]
        awaited = row[many] if many < len(row) else None
        on_from = ways.on_from(world)
        for move, (noted, after) in on_from.items():
            place = (many if noted is None else many + 1, after)
            if (noted is None or noted == awaited) and place not in found:
                found[place] = (listed[index], move)
                listed.append(place)
        index += 1
    return found
