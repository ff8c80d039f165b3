"""Plans and knots of the document's play, and what their tests share."""

from samples import HOME_STAND, example_play, wrong_values

FIRST, PICKED_1, PICKED_2 = [(("at", (path,), (x, 0)), ("at", (0,), (0,))) for path, x in ((0, 0), (1, 1), (1, 2))]
SILENT = (FIRST, PICKED_1, PICKED_2)
HEARD_1, HEARD_2 = [(("at", (2,), (x, 0)), ("at", (1,), (x,))) for x in (1, 2)]
GOOD_1, BAD_2 = [(("at", (2,), (x, 0)), ("at", (1, 0, 0), (x,))) for x in (1, 2)]
ALSO_1, GOOD_2 = [(("at", (2,), (x, 0)), ("at", (1, 1, 0), (x,))) for x in (1, 2)]
ENDED = (HOME_STAND, HOME_STAND)
FAILED = (("fail", (3, 1, 0)), HOME_STAND)
# The document's "foe" and "us", from which each of these worlds is one.
WORLDS = sorted([*SILENT, HEARD_1, HEARD_2, GOOD_1, BAD_2, ALSO_1, GOOD_2, ENDED, FAILED])
PICK_1, PICK_2 = ("pick", "foe", 0), ("pick", "foe", 1)
HEAR, TELL = ("tell", "foe", "us", "p"), ("tell", "us", "foe", "q")


def example_plan(left=None):
    """A plan that holds for the document's play; `left` are the dealings left at the begin, 2 or more, or None."""
    begin, middle, end = (None, None, None) if left is None else (left, left - 1, left - 2)
    return [
        (FIRST[1], SILENT, begin, None, {("heard", "p", 1): 1, ("heard", "p", 2): 2}),
        (HEARD_1[1], (HEARD_1,), middle, 0, {("pick", 0): 3}),
        (HEARD_2[1], (HEARD_2,), middle, 1, {("pick", 1): 4}),
        (GOOD_1[1], (GOOD_1,), middle, None, {("told", "q"): 5}),
        (GOOD_2[1], (GOOD_2,), middle, None, {("told", "q"): 5}),
        (HOME_STAND, (ENDED,), end, None, {}),
    ]


def example_knot():
    """A knot that refutes the aim 1 of the document's play."""
    return [
        ((FIRST,), 1, ("then", ("heard", "p", 2), 1)),
        ((HEARD_2,), 0, ("open", (2, 3))),
        ((BAD_2,), 0, ("lost",)),
        ((GOOD_2,), 0, ("lost",)),
    ]


def changed(items, index, place, value):
    """The list with another value at a place of one of its tuples."""
    item = list(items[index])
    item[place] = value
    return items[:index] + [tuple(item)] + items[index + 1:]


def wrong_but(*right):
    """The wrong values but for those that are told as right ones."""
    return [value for value in wrong_values()
            if not any(type(value) is type(other) and value == other for other in right)]


def wrong_aims():
    return wrong_but(10) + ["Safe", "safe ", "lost", "aim", "0", "1", -1, 41, 100, ("safe",), ["going"], (1,), [1],
        {1: 1}]


EXAMPLE = example_play()
