"""What holds for all statements of a top block together: depth, dealing, paths."""

from onlyheard.forms import DEEPEST_BLOCK, blocks_of, is_statement


def first_wrong(block, path, depth, in_repeat):
    """The first path, ascending, of a wrong item in a block, None if there is none.

    The block stands at `path`, is `depth` deep, and within a repeat or not.
    """
    for index, item in enumerate(block):
        here = path + (index,)
        if _is_wrong(item, depth, in_repeat):
            return here
        for number, inner in enumerate(blocks_of(item)):
            repeated = in_repeat or item[0] == "repeat"
            wrong = first_wrong(inner, here + (number,), depth + 1, repeated)
            if wrong is not None:
                return wrong
    return None


def _is_wrong(item, depth, in_repeat):
    if not _is_sound(item, depth):
        return True
    if item[0] == "leave":
        return not in_repeat
    return item[0] == "repeat" and not deals(item[1], depth + 1)


def deals(block, depth):
    """Whether no way without dealing goes through a block of a repeat from its begin to its end."""
    return not _quiet_ways(block, depth)[0]


def _is_sound(item, depth):
    return is_statement(item) and (depth < DEEPEST_BLOCK or len(blocks_of(item)) == 0)


def _quiet_ways(block, depth):
    """Where ways without dealing come to from the begin of the block: a pair of flags.

    The first one tells whether one comes to its end, the other one whether one comes
    to a leave of the repeat around it.
    """
    leaves = False
    for item in block:
        passes, leaves_here = _quiet_ways_of(item, depth)
        leaves = leaves or leaves_here
        if not passes:
            return (False, leaves)
    return (True, leaves)


def _quiet_ways_of(item, depth):
    """The same for one item of a block; a wrong one counts as one that deals."""
    if not _is_sound(item, depth):
        return (False, False)
    head = item[0]
    if head == "set":
        return (True, False)
    if head == "leave":
        return (False, True)
    if head == "repeat":
        # Its own leaves are the only way through it, and end here.
        return (_quiet_ways(item[1], depth + 1)[1], False)
    if head == "if" or head == "open":
        ways = [_quiet_ways(inner, depth + 1) for inner in blocks_of(item)]
        return (any([passes for passes, _ in ways]), any([leaves for _, leaves in ways]))
    return (False, False)


def count_statements(block):
    """The number of the statements in a block, those in its blocks among them."""
    return sum([1 + sum([count_statements(inner) for inner in blocks_of(item)]) for item in block])


def laid_out(block, path, behind, outside):
    """The list of triples (path, statement, follower) of a block, ascending by the paths.

    The follower is the path of what comes when the statement is done, None for the end.
    `behind` is what follows the block, `outside` what follows the innermost repeat around it.
    """
    rows = []
    for index, statement in enumerate(block):
        here = path + (index,)
        follower = path + (index + 1,) if index + 1 < len(block) else behind
        rows.append((here, statement, outside if statement[0] == "leave" else follower))
        for number, inner in enumerate(blocks_of(statement)):
            start = here + (number,)
            if statement[0] == "repeat":
                rows.extend(laid_out(inner, start, start + (0,), follower))
            else:
                rows.extend(laid_out(inner, start, follower, outside))
    return rows
