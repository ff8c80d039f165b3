"""[29]: which ports would have to be overheard."""

import unittest

from onlyheard import overhearing as module
from onlyheard.errors import BadAim, TooMany
from onlyheard.overhearing import least_deaf, least_over
from onlyheard.plays import Play
from onlyheard.routines import Routine
from onlyheard.writing import written
from planned import EXAMPLE, wrong_aims
from samples import bells, caught, counted, endless_play, example_play, four_play, powers

PICK_X = ("open", ((("set", "x", 1),), (("set", "x", 2),)))
X, Y = ("name", "x"), ("name", "y")
TELLING = ("open", ((("tell", "q", 1),), (("tell", "q", 2),)))
HOME = (("home",),)


def same(one, other):
    return ("if", ("same", one, other), (), (("fail",),))


def asked(*tells, own=(), over=(), third=()):
    """A play in which "foe" picks 1 or 2 and tells of it; then it asks "us" at p for the same digit."""
    foe = (PICK_X, *tells, ("tell", "p", 0), ("hear", "q", "y"), same(X, Y))
    routines = {"foe": Routine(foe), "us": Routine((*own, ("hear", "p", "a"), TELLING)), "x": Routine(third)}
    return Play(routines, "us", over)


def hears(*ports):
    return tuple(("hear", port, "z") for port in ports)


class Least(unittest.TestCase):
    def both(self, play, aim, over, deaf):
        self.assertEqual(least_over(play, aim), over)
        self.assertEqual(least_deaf(play, aim), deaf)
        # What is overheard in the play itself is not asked.
        for ports in (("p",), tuple(play.ports()), ("none",)):
            self.assertEqual(least_over(play.with_over(ports), aim), over)
            self.assertEqual(least_deaf(play.with_over(ports), aim), deaf)

    def test_one_port(self):
        play = asked(("tell", "r", X), third=hears("r"))
        for aim in ("safe", "going", 2, 40):
            self.both(play, aim, [("r",)], [("r",)])

    def test_either_of_two_ports(self):
        play = asked(("tell", "r", X), ("tell", "s", X), third=hears("r", "s"))
        for aim in ("safe", 2):
            self.both(play, aim, [("r",), ("s",)], [("r", "s")])

    def test_both_of_two_ports(self):
        # What is told at r and at s together makes the digit.
        sums = ("open", ((("tell", "s", 1), ("tell", "r", ("minus", X, 1))),
            (("tell", "s", 2), ("tell", "r", ("minus", X, 2)))))
        play = asked(sums, third=hears("s", "r"))
        self.both(play, "safe", [("r", "s")], [("r",), ("s",)])

    def test_one_port_or_two_others(self):
        sums = ("open", ((("tell", "s", 1), ("tell", "r", ("minus", X, 1))),
            (("tell", "s", 2), ("tell", "r", ("minus", X, 2)))))
        play = asked(("tell", "b", X), sums, third=hears("b", "s", "r"))
        self.both(play, "safe", [("b",), ("r", "s")], [("b", "r"), ("b", "s")])

    def test_nothing_has_to_be_overheard(self):
        for aim in ("safe", "going", 2):
            self.both(EXAMPLE, aim, [()], [])
        self.both(endless_play(), "going", [()], [])
        self.both(Play({"a": Routine(()), "us": Routine(())}, "us"), 0, [()], [])

    def test_nothing_helps(self):
        for aim in (0, 1):
            self.both(EXAMPLE, aim, [], [()])
        self.both(endless_play(), 40, [], [()])
        self.both(asked(), "safe", [], [()])
        self.both(Play({"a": Routine(()), "us": Routine((("fail",),))}, "us"), "safe", [], [()])

    def test_ports_of_the_own_routine_tell_nothing_more(self):
        play = asked(("tell", "r", X), third=hears("r"))
        self.assertEqual(play.ports(), ["p", "q", "r"])
        for ports in least_over(play, "safe") + least_deaf(play, "safe"):
            self.assertNotIn("p", ports)
            self.assertNotIn("q", ports)

    def test_each_list_meets_the_other(self):
        for play in (asked(("tell", "r", X), ("tell", "s", X), third=hears("r", "s")), EXAMPLE, asked()):
            over, deaf = least_over(play, "safe"), least_deaf(play, "safe")
            for one in over:
                for other in deaf:
                    self.assertTrue(set(one) & set(other))

    def test_what_is_returned(self):
        play = asked(("tell", "r", X), third=hears("r"))
        for call in (least_over, least_deaf):
            found = call(play, "safe")
            self.assertIs(type(found), list)
            self.assertIs(type(found[0]), tuple)
            found.clear()
            caught(BadAim, call, play, None)
            self.assertEqual(call(play, "safe"), [("r",)])
            self.assertEqual(call(aim="safe", play=play), [("r",)])
            self.assertEqual(call.__module__, "onlyheard.overhearing")
            self.assertIs(getattr(module, call.__name__), call)
        self.assertEqual(EXAMPLE, example_play())


class Errors(unittest.TestCase):
    def test_bad_aim(self):
        for call in (least_over, least_deaf):
            for aim in wrong_aims():
                self.assertIs(caught(BadAim, call, EXAMPLE, aim), aim)
            self.assertIsNone(caught(BadAim, call, play=EXAMPLE, aim=None))

    def test_6_ports_and_7(self):
        for call, wanted in ((least_over, [()]), (least_deaf, [])):
            for many in (5, 6):
                play = Play({"us": Routine(()), "x": Routine(hears(*"abcdefg"[:many]))}, "us")
                self.assertEqual(call(play, "safe"), wanted)
            for ports in ("abcdefg", "abcdefghkm"):
                play = Play({"us": Routine(()), "x": Routine(hears(*ports))}, "us")
                self.assertEqual(caught(TooMany, call, play, "safe"), 6)
                self.assertIs(caught(BadAim, call, play, True), True)

    def test_7_ports_go_ahead_of_401_worlds(self):
        many = dict(counted(400).routines)
        for ports, wanted in (("abcde", 400), ("abcdef", 6)):
            play = Play({**many, "x": Routine(hears(*ports))}, "us")
            for call in (least_over, least_deaf):
                self.assertEqual(caught(TooMany, call, play, "safe"), wanted)
                self.assertEqual(caught(TooMany, call, play, 40), wanted)

    def test_400_worlds_and_401(self):
        for call in (least_over, least_deaf):
            self.assertEqual(caught(TooMany, call, counted(400), "safe"), 400)
        self.assertEqual([least_over(counted(399), "safe"), least_deaf(counted(399), "going")], [[()], [()]])

    def test_too_many_with_some_of_the_ports_overheard(self):
        play = powers(11, ()).with_over(())
        self.assertEqual(written(play, "safe")[0], "plan")
        for call in (least_over, least_deaf):
            self.assertEqual(caught(TooMany, call, play, "safe"), 2000)
        play = bells(50, over=())
        for call in (least_over, least_deaf):
            self.assertEqual(call(play, 39), [] if call is least_over else [()])
            self.assertEqual(caught(TooMany, call, play, 40), 2000)

    def test_four_routines(self):
        for aim in ("safe", "going", 0, 3):
            found = [least_over(four_play(), aim), least_deaf(four_play(), aim)]
            word = written(four_play(), aim)[0]
            self.assertEqual(found == [[()], []], word == "plan")


if __name__ == "__main__":
    unittest.main()
