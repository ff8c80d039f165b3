"""Values that several tests need: wrong values of every kind, and shared checks."""

from onlyheard import errors
from onlyheard.routines import Routine

KEPT_WORDS = (
    "set tell hear wait on open or if else repeat leave home fail end plus minus same less not routine own over"
).split()
ERROR_NAMES = (
    "BadRoutine NoPath NoStand NoPick NoTell NoPort NoDigit BadRoutines BadOwn BadOver NoWorld NoMove BadRun "
    "BadRow NoRow BadFact BadAim BadPlan Overheard BadPicks BadNames BadText TooMany"
).split()
GOOD_NAMES = ["a", "z", "ab", "name", "abcdefgh", "zzzzzzzz", "offset", "ports", "at", "up"]
WRONG_NAMES = KEPT_WORDS + [
    "", "abcdefghi", "a" * 10000, "A", "aB", "a1", "1", "a ", " a", "a b", "a_b", "a-b", "~", "a~", "`", "{",
    "\n", "a\n", "\na", "a.b",
]


def nested(value, wrap, times):
    for _ in range(times):
        value = wrap(value)
    return value


def in_tuple(value):
    return (value,)


def in_list(value):
    return [value]


def in_dict(value):
    return {"a": value}


def wrong_values():
    """A new list of values of every kind that callers may pass where an error is named.

    No one is a digit, a name, an expression, a statement or a stand.
    """
    plain = [None, True, False, -1, 10, 10 ** 5000, -(10 ** 5000), (), [], {}]
    plain += WRONG_NAMES
    plain += [Routine(()), Routine((("tell", "p", 1),)), errors.HeardError("a"), errors.BadRoutine((0,))]
    plain += [[0], [1, 2], ["a"], {0: 1}, {"a": "b"}, {(0,): ()}, [("set", "a", 1)], {"set": ("a", 1)}]
    plain += [(0,) * 100000, [0] * 100000, tuple(range(1000)), "ab" * 100000]
    values = list(plain)
    for value in plain:
        values += [in_list(value), in_dict(value)]
        if value not in ["leave", "home", "fail"]:
            values.append(in_tuple(value))
    for wrap in (in_tuple, in_list, in_dict):
        values += [nested(value, wrap, 80) for value in (None, True, 1, "a", Routine(()))]
    for wrap in (lambda x: (x, x), lambda x: [x, x], lambda x: {"a": x, "b": x}):
        # As a tree these have 2 ** 80 leaves: nothing may walk through all of them.
        values += [nested(value, wrap, 80) for value in (0, True, "a")]
    return values


def wrong_at(block):
    """What BadRoutine tells of a value, "right" if it is right."""
    try:
        Routine(block)
    except errors.BadRoutine as error:
        return error.what
    return "right"


def repeated_if(inner, times):
    """A block of one "if", which has a block of one "if", and so on: `times` of them around `inner`."""
    return nested(inner, lambda block: (("if", 1, block, ()),), times)


def many_statements(many):
    """A top block with 6000 statements and some more, up to two."""
    leaf = (("set", "a", 1),) * 12
    middle = (("if", 1, leaf, leaf),) * 12
    rest = (("if", 1, leaf, leaf),) * 11 + (("if", 1, leaf, leaf[:2]),)
    block = (("if", 1, middle, middle),) * 9 + (("if", 1, middle, rest),)
    return block + (("set", "a", 1),) * (many - 6000)
