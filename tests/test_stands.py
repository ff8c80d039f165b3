"""[11], [12]: runs through each kind of statement, and all functions of onlyheard.stands at each kind of stand."""

import unittest

from onlyheard import stands
from onlyheard.errors import NoDigit, NoPick, NoPort, NoStand, NoTell
from onlyheard.routines import Routine
from onlyheard.stands import begun, choices, heard, listens, picked, tells, told
from samples import caught, wrong_values

A = ("name", "a")
TELL = ("tell", "p", 1)
HOME = ("home",)
# At (0,) it tells, at (1,) it hears, at (2,) it waits, at (3,) it picks; (4,) is a fail.
BLOCK = (
    ("tell", "p", ("plus", A, 2)),
    ("hear", "q", "a"),
    ("wait", (("s", "b", (TELL,)), ("r", "a", ()))),
    ("open", ((("home",),), (), (("tell", "r", A),))),
    ("fail",),
)
ROUTINE = Routine(BLOCK)
AT_TELL = ("at", (0,), (9, 4))
AT_HEAR = ("at", (1,), (3, 4))
AT_WAIT = ("at", (2,), (5, 6))
AT_OPEN = ("at", (3,), (7, 8))
FAILED = ("fail", (4,))
STANDS = [AT_TELL, AT_HEAR, AT_WAIT, AT_OPEN, FAILED, HOME]
# Each function with right values for what stands behind the stand.
CALLS = [
    lambda routine, stand: picked(routine, stand, 0), told, lambda routine, stand: heard(routine, stand, "q", 1),
    tells, listens, choices,
]
NO_STANDS = [
    ("at", (0,), (0,)), ("at", (0,), ()), ("at", (0,), (0, 0, 0)), ("at", (0,), (0, 10)), ("at", (0,), (-1, 0)),
    ("at", (0,), (True, 0)), ("at", (0,), (0, False)), ("at", (0,), [0, 0]), ("at", [0], (0, 0)),
    ["at", (0,), (0, 0)], ("at", (False,), (0, 0)), ("at", (True,), (0, 0)), ("at", 0, (0, 0)), ("at", (), (0, 0)),
    ("at", (4,), (0, 0)), ("at", (5,), (0, 0)), ("at", (-1,), (0, 0)), ("at", (3, 0, 0), (0, 0)),
    ("at", (3, 1, 0), (0, 0)), ("at", (2, 0), (0, 0)), ("at", (2, False, 0), (0, 0)), ("at", (2, 0, False), (0, 0)),
    ("at", (2,), (0, "0")), ("at", (2,), "00"), ("at", (2,), None), ("at", (2,), {0: 0, 1: 0}), ("at", None, (0, 0)),
    ("at", (0,)), ("at", (0,), (0, 0), 0), ("At", (0,), (0, 0)), ("on", (0,), (0, 0)), (None, (0,), (0, 0)), ("at",),
    ("fail",), ("at", (4,)), ("failed", (4,)), ("home", (4,)), (None, (4,)), ("fail", (0,)), ("fail", (5,)),
    ("fail", ()), ("fail", [4]), ("fail", 4),
    ("fail", (4,), (0, 0)), ("fail", (True,)), ("fail", (3, 0, 0)), ["fail", (4,)], ("home", ()), ("home", (0,)),
    ["home"], "home", "at", ("home", "home"), ("leave",), ("end",), (("home",),), {"home": True}, ((0,), (0, 0)),
]


class Runs(unittest.TestCase):
    def test_values_begin_with_zero(self):
        self.assertEqual(begun(ROUTINE), ("at", (0,), (0, 0)))
        self.assertEqual(begun(Routine((("hear", "p", "b"), ("set", "a", 1)))), ("at", (0,), (0, 0)))
        self.assertEqual(begun(Routine((TELL,))), ("at", (0,), ()))

    def test_the_empty_routine_is_home(self):
        self.assertEqual(begun(Routine(())), HOME)
        self.assertEqual(begun(Routine((("set", "a", 1), ("if", 1, (), ())))), HOME)

    def test_values_are_ascending_by_the_names(self):
        routine = Routine((("set", "b", 1), ("set", "aa", 2), ("set", "a", 3), ("set", "c", 4), TELL))
        self.assertEqual(begun(routine), ("at", (4,), (3, 2, 1, 4)))

    def test_told(self):
        self.assertEqual(told(ROUTINE, AT_TELL), ("at", (1,), (9, 4)))
        self.assertEqual(told(Routine((TELL,)), ("at", (0,), ())), HOME)

    def test_heard_at_a_hear(self):
        for digit in range(10):
            self.assertEqual(heard(ROUTINE, AT_HEAR, "q", digit), ("at", (2,), (digit, 4)))
        routine = Routine((("hear", "p", "b"), ("tell", "p", A)))
        self.assertEqual(heard(routine, begun(routine), "p", 5), ("at", (1,), (0, 5)))

    def test_heard_at_a_wait(self):
        self.assertEqual(heard(ROUTINE, AT_WAIT, "s", 1), ("at", (2, 0, 0), (5, 1)))
        self.assertEqual(heard(ROUTINE, AT_WAIT, "r", 0), ("at", (3,), (0, 6)))
        self.assertEqual(told(ROUTINE, ("at", (2, 0, 0), (5, 1))), ("at", (3,), (5, 1)))

    def test_picked(self):
        self.assertEqual(picked(ROUTINE, AT_OPEN, 0), HOME)
        self.assertEqual(picked(ROUTINE, AT_OPEN, 1), FAILED)
        self.assertEqual(picked(ROUTINE, AT_OPEN, 2), ("at", (3, 2, 0), (7, 8)))
        self.assertEqual(told(ROUTINE, ("at", (3, 2, 0), (7, 8))), FAILED)

    def test_begin_at_each_kind(self):
        for statement in (TELL, ("hear", "p", "a"), ("wait", (("p", "a", ()),)), ("open", ((),))):
            self.assertEqual(begun(Routine((statement,)))[:2], ("at", (0,)))
        self.assertEqual(begun(Routine((("fail",), TELL))), ("fail", (0,)))
        self.assertEqual(begun(Routine((("home",), TELL))), HOME)

    def test_if(self):
        for digit in range(10):
            routine = Routine((("set", "a", digit), ("if", A, (TELL,), (TELL, TELL)), ("tell", "q", 2)))
            first = begun(routine)
            self.assertEqual(first[1], (1, 0, 0) if digit else (1, 1, 0))
            self.assertEqual(told(routine, first)[1], (2,) if digit else (1, 1, 1))

    def test_empty_blocks_are_gone_through(self):
        routine = Routine((("if", 1, (), (TELL,)), ("if", 0, (TELL,), ()), ("open", ((), (TELL,))), ("tell", "q", 1)))
        self.assertEqual(begun(routine), ("at", (2,), ()))
        self.assertEqual(picked(routine, begun(routine), 0), ("at", (3,), ()))
        self.assertEqual(picked(routine, begun(routine), 1), ("at", (2, 1, 0), ()))

    def test_nested_ends(self):
        inner = ("if", 1, (("open", ((("hear", "p", "a"),), ())),), ())
        routine = Routine((("if", 1, (inner,), ()), ("if", 1, (inner,), ()), ("tell", "q", A)))
        first = begun(routine)
        self.assertEqual(first, ("at", (0, 0, 0, 0, 0), (0,)))
        self.assertEqual(picked(routine, first, 0), ("at", (0, 0, 0, 0, 0, 0, 0), (0,)))
        second = heard(routine, picked(routine, first, 0), "p", 8)
        self.assertEqual(second, ("at", (1, 0, 0, 0, 0), (8,)))
        self.assertEqual(picked(routine, second, 1), ("at", (2,), (8,)))

    def test_repeat_and_leave(self):
        count = ("set", "a", ("plus", A, 1))
        routine = Routine((("repeat", (count, ("if", ("same", A, 3), (("leave",), TELL), ()), TELL)), ("tell", "q", A)))
        stand, seen = begun(routine), []
        for _ in range(2):
            seen.append(stand)
            stand = told(routine, stand)
        self.assertEqual(seen, [("at", (0, 0, 2), (1,)), ("at", (0, 0, 2), (2,))])
        self.assertEqual(stand, ("at", (1,), (3,)))
        self.assertEqual(told(routine, stand), HOME)

    def test_a_repeat_goes_on_and_on(self):
        routine = Routine((("repeat", (("hear", "p", "a"),)), ("fail",)))
        stand = begun(routine)
        for digit in list(range(10)) * 3:
            stand = heard(routine, stand, "p", digit)
            self.assertEqual(stand, ("at", (0, 0, 0), (digit,)))

    def test_a_leave_leaves_the_innermost_repeat(self):
        inner = ("repeat", (TELL, ("open", ((("leave",),), ()))))
        routine = Routine((("repeat", (inner, ("hear", "q", "a"), ("if", A, (("leave",),), ()))), ("fail",)))
        stand = told(routine, begun(routine))
        self.assertEqual(stand, ("at", (0, 0, 0, 0, 1), (0,)))
        self.assertEqual(picked(routine, stand, 1), ("at", (0, 0, 0, 0, 0), (0,)))
        self.assertEqual(picked(routine, stand, 0), ("at", (0, 0, 1), (0,)))
        self.assertEqual(heard(routine, ("at", (0, 0, 1), (0,)), "q", 0), ("at", (0, 0, 0, 0, 0), (0,)))
        self.assertEqual(heard(routine, ("at", (0, 0, 1), (0,)), "q", 1), ("fail", (1,)))

    def test_home_and_fail_within_blocks(self):
        ways = (("wait", (("p", "a", (("home",),)), ("q", "a", (("if", A, (("fail",),), ()),)))), TELL)
        routine = Routine((("repeat", ways), ("fail",)))
        stand = begun(routine)
        self.assertEqual(heard(routine, stand, "p", 1), HOME)
        self.assertEqual(heard(routine, stand, "q", 1), ("fail", (0, 0, 0, 1, 0, 0, 0)))
        self.assertEqual(heard(routine, stand, "q", 0), ("at", (0, 0, 1), (0,)))

    def test_twelve_deep(self):
        block = (TELL,)
        for _ in range(11):
            block = (("repeat", block),)
        routine = Routine(block)
        self.assertEqual(told(routine, begun(routine)), begun(routine))

    def test_a_stand_that_no_run_comes_to_goes_on_too(self):
        self.assertEqual(told(ROUTINE, ("at", (2, 0, 0), (1, 1))), ("at", (3,), (1, 1)))
        routine = Routine((("home",), ("tell", "p", A), ("set", "a", 5), ("hear", "q", "b")))
        self.assertEqual(told(routine, ("at", (1,), (2, 3))), ("at", (3,), (5, 3)))


class Asked(unittest.TestCase):
    def test_tells(self):
        wanted = [("p", 1), None, None, None, None, None]
        self.assertEqual([tells(ROUTINE, stand) for stand in STANDS], wanted)
        for digit in range(10):
            stand = ("at", (0,), (digit, 0))
            self.assertEqual(repr(tells(ROUTINE, stand)), repr(("p", (digit + 2) % 10)))

    def test_listens(self):
        self.assertEqual([listens(ROUTINE, stand) for stand in STANDS], [[], ["q"], ["r", "s"], [], [], []])

    def test_choices(self):
        self.assertEqual([choices(ROUTINE, stand) for stand in STANDS], [0, 0, 0, 3, 0, 0])
        for many in (1, 2, 3, 4):
            routine = Routine((("open", ((),) * many),))
            self.assertEqual(choices(routine, begun(routine)), many)

    def test_by_name(self):
        self.assertEqual(begun(routine=ROUTINE), ("at", (0,), (0, 0)))
        self.assertEqual(picked(routine=ROUTINE, stand=AT_OPEN, k=0), HOME)
        self.assertEqual(told(routine=ROUTINE, stand=AT_TELL), ("at", (1,), (9, 4)))
        self.assertEqual(heard(routine=ROUTINE, stand=AT_HEAR, port="q", digit=2), ("at", (2,), (2, 4)))
        self.assertEqual(tells(routine=ROUTINE, stand=AT_TELL), ("p", 1))
        self.assertEqual(listens(routine=ROUTINE, stand=AT_HEAR), ["q"])
        self.assertEqual(choices(routine=ROUTINE, stand=AT_OPEN), 3)

    def test_returned_lists_are_new(self):
        for stand in STANDS:
            once = listens(ROUTINE, stand)
            before = list(once)
            once.append("x")
            self.assertEqual(listens(ROUTINE, stand), before)
        self.assertEqual(ROUTINE, Routine(BLOCK))

    def test_asked_again_behind_errors(self):
        for _ in range(3):
            self.assertEqual(heard(ROUTINE, AT_WAIT, "s", 1), ("at", (2, 0, 0), (5, 1)))
            for wrong in (["s", 1], ["p", 1]):
                caught(NoPort, heard, ROUTINE, AT_WAIT, wrong, 3)
            caught(NoDigit, heard, ROUTINE, AT_WAIT, "s", 10)
            caught(NoStand, told, ROUTINE, ("at", (0,), [0, 0]))
            self.assertEqual(tells(ROUTINE, AT_TELL), ("p", 1))
            self.assertEqual(begun(ROUTINE), ("at", (0,), (0, 0)))


class Errors(unittest.TestCase):
    def test_no_stand(self):
        for value in NO_STANDS + wrong_values():
            for call in CALLS:
                self.assertIs(caught(NoStand, call, ROUTINE, value), value)

    def test_wrong_values_within_stands(self):
        for value in wrong_values():
            for stand in (
                ("at", value, (0, 0)), ("at", (0,), value), ("at", (value,), (0, 0)), ("at", (0,), (0, value)),
                ("at", (0,), (value, 0)), ("at", (2, value, 0), (0, 0)), ("fail", value), ("fail", (value,)),
                (value, (0,), (0, 0)), (value, (0,)), (value, 0), ("at", (0,), (0, 0), value), ("home", value),
            ):
                for call in CALLS:
                    self.assertIs(caught(NoStand, call, ROUTINE, stand), stand)

    def test_stands_of_another_routine(self):
        other = Routine((TELL,))
        for stand in STANDS[:-1]:
            for call in CALLS:
                self.assertIs(caught(NoStand, call, other, stand), stand)
        self.assertIsNone(tells(other, HOME))
        self.assertEqual(caught(NoStand, tells, Routine(()), ("at", (0,), ())), ("at", (0,), ()))

    def test_no_pick(self):
        for value in wrong_values() + [3, 4, 100, "0", (0,), [1], ("pick", 0)]:
            self.assertIs(caught(NoPick, picked, ROUTINE, AT_OPEN, value), value)
        for stand in STANDS:
            if stand != AT_OPEN:
                for value in (0, 1, None, True, -1):
                    self.assertIs(caught(NoPick, picked, ROUTINE, stand, value), value)

    def test_no_tell(self):
        for stand in STANDS[1:]:
            self.assertIs(caught(NoTell, told, ROUTINE, stand), stand)

    def test_no_port(self):
        for value in wrong_values() + ["p", "s", "a", ("q",), ["q"], {"q": 1}]:
            self.assertIs(caught(NoPort, heard, ROUTINE, AT_HEAR, value, 1), value)
        for value in wrong_values() + ["p", "q", "a", "b"]:
            self.assertIs(caught(NoPort, heard, ROUTINE, AT_WAIT, value, 1), value)
        for stand in (AT_TELL, AT_OPEN, FAILED, HOME):
            for port in "pqrs":
                self.assertEqual(caught(NoPort, heard, ROUTINE, stand, port, 1), port)

    def test_no_digit(self):
        for value in wrong_values() + [11, "1", (1,), [1], ("name", "a"), A]:
            self.assertIs(caught(NoDigit, heard, ROUTINE, AT_HEAR, "q", value), value)
            self.assertIs(caught(NoDigit, heard, ROUTINE, AT_WAIT, "r", value), value)

    def test_order(self):
        for value in (None, ("at", (4,), (0, 0)), [HOME]):
            self.assertIs(caught(NoStand, picked, ROUTINE, value, None), value)
            self.assertIs(caught(NoStand, told, ROUTINE, value), value)
            self.assertIs(caught(NoStand, heard, ROUTINE, value, None, None), value)
            self.assertIs(caught(NoStand, heard, ROUTINE, value, "q", None), value)
        self.assertEqual(caught(NoPort, heard, ROUTINE, AT_HEAR, "p", True), "p")
        self.assertEqual(caught(NoPort, heard, ROUTINE, HOME, "q", 10), "q")

    def test_wrong_values_stay_as_they_were(self):
        inner = [0, 0]
        stand = ["at", (0,), inner]
        for call in CALLS:
            caught(NoStand, call, ROUTINE, stand)
            caught(NoStand, call, ROUTINE, ("at", (0,), inner))
        self.assertEqual(stand, ["at", (0,), [0, 0]])


class Module(unittest.TestCase):
    def test_functions_stand_in_it(self):
        for name in ("begun", "picked", "told", "heard", "tells", "listens", "choices"):
            self.assertEqual(getattr(stands, name).__module__, "onlyheard.stands")


if __name__ == "__main__":
    unittest.main()
