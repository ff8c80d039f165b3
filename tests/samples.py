"""Values that several tests need: wrong values of every kind, and shared checks."""

from onlyheard import errors
from onlyheard.plays import Play
from onlyheard.routines import Routine
from onlyheard.sittings import Sitting

KEPT_WORDS = (
    "set tell hear wait on open or if else repeat leave home fail end plus minus same less not routine own over"
).split()
ERROR_NAMES = (
    "BadRoutine NoPath NoStand NoPick NoTell NoPort NoDigit BadRoutines BadOwn BadOver NoWorld NoMove BadRun "
    "BadRow NoRow BadFact BadAim BadPlan Overheard BadPicks BadNames BadText TooMany"
).split()
GOOD_NAMES = ["a", "z", "ab", "name", "abcdefgh", "zzzzzzzz", "offset", "ports", "at", "up"]
WRONG_NAMES = KEPT_WORDS + [
    "", "abcdefghi", "a" * 10000, "A", "aB", "a1", "1", "a ", " a", "a b", "a_b", "a-b", "~", "a~", "`", "{",
    "\n", "a\n", "\na", "a.b",
]


def nested(value, wrap, times):
    for _ in range(times):
        value = wrap(value)
    return value


def in_tuple(value):
    return (value,)


def in_list(value):
    return [value]


def in_dict(value):
    return {"a": value}


def wrong_values():
    """A new list of values of every kind that callers may pass where an error is named.

    No one is a digit, a name, an expression, a statement or a stand.
    """
    plain = [None, True, False, -1, 10, 10 ** 5000, -(10 ** 5000), (), [], {}]
    plain += WRONG_NAMES
    plain += [Routine(()), Routine((("tell", "p", 1),)), errors.HeardError("a"), errors.BadRoutine((0,))]
    plain += [Play({"a": Routine(()), "b": Routine(())}, "a"), example_play(("p",)), Sitting(example_play())]
    plain += [[0], [1, 2], ["a"], {0: 1}, {"a": "b"}, {(0,): ()}, [("set", "a", 1)], {"set": ("a", 1)}]
    plain += [(0,) * 100000, [0] * 100000, tuple(range(1000)), "ab" * 100000]
    values = list(plain)
    for value in plain:
        values += [in_list(value), in_dict(value)]
        if value not in ["leave", "home", "fail"]:
            values.append(in_tuple(value))
    for wrap in (in_tuple, in_list, in_dict):
        values += [nested(value, wrap, 80) for value in (None, True, 1, "a", Routine(()))]
    for wrap in (lambda x: (x, x), lambda x: [x, x], lambda x: {"a": x, "b": x}):
        # As a tree these have 2 ** 80 leaves: nothing may walk through all of them.
        values += [nested(value, wrap, 80) for value in (0, True, "a")]
    return values


def caught(kind, call, *values, **named):
    """What the error tells that the call raises."""
    try:
        call(*values, **named)
    except kind as error:
        if type(error) is not kind:
            raise
        return error.what
    raise AssertionError("no error")


def wrong_at(block):
    """What BadRoutine tells of a value, "right" if it is right."""
    try:
        Routine(block)
    except errors.BadRoutine as error:
        return error.what
    return "right"


def repeated_if(inner, times):
    """A block of one "if", which has a block of one "if", and so on: `times` of them around `inner`."""
    return nested(inner, lambda block: (("if", 1, block, ()),), times)


def many_statements(many):
    """A top block with 6000 statements and some more, up to two."""
    leaf = (("set", "a", 1),) * 12
    middle = (("if", 1, leaf, leaf),) * 12
    rest = (("if", 1, leaf, leaf),) * 11 + (("if", 1, leaf, leaf[:2]),)
    block = (("if", 1, middle, middle),) * 9 + (("if", 1, middle, rest),)
    return block + (("set", "a", 1),) * (many - 6000)


def counting(names):
    """The statements that add 1 to the number whose digits, the lowest one last, the names have."""
    carry = (("if", ("name", names[-1]), (), counting(names[:-1])),) if len(names) > 1 else ()
    return (("set", names[-1], ("plus", ("name", names[-1]), 1)), *carry)


def counter(many, port="p"):
    """A routine that tells `many` times at the port, 1 to 9999 times, and then is home."""
    ending = (("leave",),)
    for name, digit in zip("abcd", f"{many:04}"):
        ending = (("if", ("same", ("name", name), int(digit)), ending, ()),)
    return Routine((("repeat", (("tell", port, ("name", "d")), *counting("abcd"), *ending)),))


def listener(port="p"):
    """A routine that hears at the port again and again."""
    return Routine((("repeat", (("hear", port, "x"),)),))


def counted(many):
    """A play that has one world more than told; its runs are the ways through them one by one."""
    return Play({"us": listener(), "teller": counter(many)}, "us")


def picker(many):
    """A routine that does `many` open lines of one empty block each, 0 to 22 of them."""
    line = ("open", ((),))
    return Routine((*[line] * min(many, 11), ("if", 1, (line,) * max(many - 11, 0), ())))


def example_play(over=()):
    """The play of the document's examples."""
    own = (("hear", "p", "a"), ("open", ((("tell", "q", 1),), (("tell", "q", ("name", "a")),))))
    pick = ("open", ((("set", "x", 1),), (("set", "x", 2),)))
    test = ("if", ("same", ("name", "x"), ("name", "y")), (), (("fail",),))
    foe = (pick, ("tell", "p", ("name", "x")), ("hear", "q", "y"), test)
    return Play({"foe": Routine(foe), "us": Routine(own)}, "us", over)


def four_play(over=()):
    """A play with every kind of statement at which a routine stands; "us" is the own routine."""
    value = ("name", "m")
    return Play({
        "left": Routine((("tell", "p", 3), ("tell", "s", 7))),
        "mid": Routine((("open", ((("tell", "q", value),), (("set", "m", 4), ("tell", "q", value)))),)),
        "right": Routine((("wait", (("p", "b", ()), ("s", "c", ()), ("r", "b", ()))), ("hear", "s", "b"))),
        "us": Routine((
            ("wait", (("q", "a", (("tell", "r", ("name", "a")),)), ("p", "a", ()))),
            ("open", ((("home",),), (("fail",),), ())),
        )),
    }, "us", over)


def endless_play(over=()):
    """A play in which one move is possible again and again."""
    return Play({"teller": Routine((("repeat", (("tell", "p", 1),)),)), "us": listener()}, "us", over)


DIGIT = ("open", ((("tell", "q", 0),), (("tell", "q", 1),)))


def bells(many, own=(("repeat", (("hear", "p", "x"),)),), begin=(), over=("q",)):
    """A play with `many` sets of worlds that follow one another by what is overheard.

    In each of them the own routine can hear 0, which changes no world; `begin` is done ahead of that.
    """
    bell = (*begin, ("repeat", (("tell", "p", 0),)))
    return Play({"bell": Routine(bell), "us": Routine(own), "teller": counter(many - 1, "q"), "x": listener("q")},
                "us", over)


def powers(many, own=(("hear", "p", "x"),)):
    """A play whose own routine overhears digits of one that may stop `many` digits behind a 1.

    Which of its counts may go on is told by which of the last digits were 1: there are 2 ** many sets and more.
    """
    foe = ("repeat", (("open", (*DIGIT[1], (("tell", "q", 1), *more_digits(many)))),))
    return Play({"foe": Routine((foe,)), "us": Routine(own), "x": listener("q")}, "us", ("q",))


def more_digits(many):
    """The statements that tell so many more digits and are home then."""
    if many > 9:
        return (DIGIT,) * (many - 9) + more_digits(9)
    ending = ("if", ("same", ("name", "c"), 9), (("leave",),), ())
    count = ("repeat", (ending, ("set", "c", ("plus", ("name", "c"), 1)), DIGIT))
    return (("set", "c", 9 - many), count, ("home",))


ENDLESS = ("tell", "teller", "us", "p")
HOME_STAND = ("home",)
