"""What a routine does at once, one statement after the other, until it stands."""

from onlyheard.forms import blocks_of, is_digit

STANDING = ("tell", "hear", "wait", "open")


def value_of(expression, held):
    """The digit that an expression gives; `held` is a dict from the names to their values."""
    if is_digit(expression):
        return expression
    head = expression[0]
    if head == "name":
        return held[expression[1]]
    values = [value_of(part, held) for part in expression[1:]]
    if head == "not":
        return 1 if values[0] == 0 else 0
    one, other = values
    if head == "plus":
        return (one + other) % 10
    if head == "minus":
        return (one - other) % 10
    if head == "same":
        return 1 if one == other else 0
    return 1 if one < other else 0


def settled(routine, path, held):
    """The stand that a routine comes to when it goes on at a path, None for its end.

    `held` is a dict from its names to their values there.
    """
    values = dict(held)
    while path is not None:
        statement = routine.statement(path)
        head = statement[0]
        if head in STANDING:
            return ("at", path, tuple([values[name] for name in routine.names()]))
        if head == "fail":
            return ("fail", path)
        if head == "home":
            return ("home",)
        if head == "set":
            values[statement[1]] = value_of(statement[2], values)
        path = _next_path(routine, path, values)
    return ("home",)


def _next_path(routine, path, held):
    statement = routine.statement(path)
    if statement[0] == "if":
        return entered(routine, path, 0 if value_of(statement[1], held) != 0 else 1)
    if statement[0] == "repeat":
        return entered(routine, path, 0)
    return routine.follower(path)


def entered(routine, path, number):
    """The path at which a routine goes on that enters a block of the statement at a path."""
    if len(blocks_of(routine.statement(path))[number]) == 0:
        return routine.follower(path)
    return path + (number, 0)
