"""[13], [5], [10]: plays, what they tell, and the plays that are made of them."""

import unittest

from onlyheard import plays
from onlyheard.errors import BadOver, BadOwn, BadRoutines
from onlyheard.plays import Play
from onlyheard.routines import Routine
from onlyheard.worlds import first_world, worlds
from samples import GOOD_NAMES, KEPT_WORDS, WRONG_NAMES, caught, wrong_values

EMPTY = Routine(())
TELLS = Routine((("tell", "p", 1), ("tell", "z", 2)))
HEARS = Routine((("wait", (("q", "x", ()), ("p", "y", (("hear", "o", "x"),)))),))
FOUR = {"d": TELLS, "b": HEARS, "aa": EMPTY, "a": TELLS}
# No name among these is one of a play.
NO_NAMES = WRONG_NAMES + [None, True, False, 0, 1, -1, 10 ** 5000, (), ("a",), (0, ("a",)), ((True,),)]
WRONG_OVERS = [
    ["p"], ["p", "q"], [], {}, {"p": 1}, "p", "pq", ("q", "p"), ("p", "p"), ("p", "q", "q"), ("p", "q", "p"),
    ("p", None),
    (None,), (1,), (True,), ("p", 1), (1, "p"), ("P",), ("p", ""), ("", "p"), ("on",), ("p", "set"), ("a1",),
    (("p",),), ("abcdefghi",), ("p", ["q"]), ("p", {}), (EMPTY,), ("ab", "a"), ("b", "ab"), 0, 1, True, False, None,
]


def same(play, routines, own, over):
    """Whether the play has these attributes."""
    return type(play) is Play and [play.routines, play.own, play.over] == [routines, own, over]


class Plays(unittest.TestCase):
    def test_by_position_and_by_name(self):
        routines = {"us": EMPTY, "foe": TELLS}
        for play, over in (
            (Play(routines, "us"), ()), (Play(routines, "us", ()), ()), (Play(routines, "us", ("p",)), ("p",)),
            (Play(routines, own="us"), ()), (Play(own="us", routines=routines), ()),
            (Play(over=("a", "p"), own="us", routines=routines), ("a", "p")),
            (Play(routines, "us", over=("p",)), ("p",)),
        ):
            self.assertTrue(same(play, routines, "us", over))

    def test_two_to_four_routines(self):
        for names in (["a", "b"], ["a", "b", "c"], ["a", "b", "c", "d"]):
            routines = {name: TELLS for name in names}
            for own in names:
                self.assertTrue(same(Play(routines, own), routines, own, ()))
                self.assertEqual(Play(routines, own).names(), names)

    def test_one_routine_and_five(self):
        for names in ([], ["a"], ["a", "b", "c", "d", "e"], GOOD_NAMES):
            for own in ("a", "x", None):
                self.assertIsNone(caught(BadRoutines, Play, {name: EMPTY for name in names}, own))

    def test_names_of_each_kind(self):
        for name in GOOD_NAMES:
            self.assertEqual(Play({name: EMPTY, "x": EMPTY}, name).names(), sorted([name, "x"]))

    def test_names_and_ports(self):
        play = Play(FOUR, "b", ("c", "p"))
        self.assertEqual(play.names(), ["a", "aa", "b", "d"])
        self.assertEqual(play.ports(), ["o", "p", "q", "z"])
        self.assertEqual(Play({"a": EMPTY, "b": EMPTY}, "a", ("p",)).ports(), [])
        self.assertEqual(Play({"a": EMPTY, "b": TELLS}, "a").ports(), ["p", "z"])

    def test_over_may_have_any_ports(self):
        for over in ((), ("p",), ("a", "b"), ("a", "aa", "ab", "b"), ("nobody", "z"), tuple(sorted(GOOD_NAMES))):
            self.assertTrue(same(Play(FOUR, "a", over), FOUR, "a", over))
            self.assertTrue(same(Play(FOUR, "a").with_over(over), FOUR, "a", over))
        many = tuple(sorted(x + y + z for x in "abcdefgh" for y in "abcdefgh" for z in "bcdjklq"))
        self.assertEqual(Play(FOUR, "a", many).over, many)

    def test_with_over(self):
        play = Play(FOUR, "b", ("c", "p"))
        self.assertTrue(same(play.with_over(()), FOUR, "b", ()))
        self.assertTrue(same(play.with_over(over=("q", "z")), FOUR, "b", ("q", "z")))
        self.assertTrue(same(play, FOUR, "b", ("c", "p")))

    def test_with_own(self):
        play = Play(FOUR, "b", ("c", "p"))
        self.assertTrue(same(play.with_own(EMPTY), {**FOUR, "b": EMPTY}, "b", ("c", "p")))
        self.assertTrue(same(play.with_own(routine=TELLS), {**FOUR, "b": TELLS}, "b", ("c", "p")))
        self.assertTrue(same(play, FOUR, "b", ("c", "p")))
        self.assertEqual(play.with_own(EMPTY).ports(), ["p", "z"])
        self.assertEqual(first_world(play.with_own(EMPTY))[2], ("home",))

    def test_class_stands_in_its_module(self):
        self.assertEqual(plays.Play.__module__, "onlyheard.plays")
        for name in ("__init__", "names", "ports", "with_over", "with_own", "__eq__"):
            self.assertIn(name, vars(Play))


class Changed(unittest.TestCase):
    def test_what_is_returned_may_be_changed(self):
        play = Play(FOUR, "b", ("p",))
        for _ in range(3):
            self.assertIsNot(play.routines, play.routines)
            play.routines.clear()
            play.routines["b"] = EMPTY
            play.routines["new"] = None
            del play.routines["a"]
            play.names().append("x")
            play.ports().clear()
            self.assertTrue(same(play, FOUR, "b", ("p",)))
            self.assertEqual([play.names(), play.ports()], [["a", "aa", "b", "d"], ["o", "p", "q", "z"]])

    def test_what_was_passed_stays_and_may_be_changed(self):
        routines = dict(FOUR)
        play = Play(routines, "b")
        self.assertEqual(list(routines.items()), list(FOUR.items()))
        listed, other = worlds(play), play.with_over(("p",))
        routines["b"] = EMPTY
        routines["x"] = 1
        del routines["a"]
        for one, over in ((play, ()), (other, ("p",))):
            self.assertTrue(same(one, FOUR, "b", over))
            self.assertEqual(worlds(one), listed)
            self.assertEqual(one.names(), ["a", "aa", "b", "d"])

    def test_a_told_dict_makes_another_play(self):
        play = Play(FOUR, "b")
        told = play.routines
        other = Play(told, "b")
        told["b"] = EMPTY
        self.assertTrue(same(play, FOUR, "b", ()))
        self.assertTrue(same(other, FOUR, "b", ()))
        self.assertTrue(same(Play(told, "b"), {**FOUR, "b": EMPTY}, "b", ()))

    def test_behind_errors(self):
        play = Play(FOUR, "b", ("p",))
        for value in wrong_values():
            if not isinstance(value, Routine):
                caught(BadOwn, play.with_own, value)
            if value != ():
                caught(BadOver, play.with_over, value)
        self.assertTrue(same(play, FOUR, "b", ("p",)))
        self.assertEqual([play.names(), play.ports()], [["a", "aa", "b", "d"], ["o", "p", "q", "z"]])

    def test_wrong_dicts_stay_as_they_were(self):
        inner = [EMPTY]
        routines = {"b": EMPTY, "a": inner}
        caught(BadRoutines, Play, routines, "a")
        self.assertEqual(list(routines.items()), [("b", EMPTY), ("a", inner)])
        self.assertEqual(inner, [EMPTY])


class Errors(unittest.TestCase):
    def test_no_dict_of_routines(self):
        for value in wrong_values() + [["a", "b"], [("a", EMPTY), ("b", EMPTY)], (("a", EMPTY), ("b", EMPTY)), "ab"]:
            wanted = "a" if type(value) is dict and list(value) == ["a", "b"] else None
            self.assertEqual(caught(BadRoutines, Play, value, "a"), wanted)
            self.assertEqual(caught(BadRoutines, Play, routines=value, own=None, over=None), wanted)

    def test_keys_that_are_no_names(self):
        for name in NO_NAMES:
            for routines in (
                {name: EMPTY, "b": EMPTY}, {"a": EMPTY, "b": EMPTY, name: EMPTY}, {"a": EMPTY, name: EMPTY, "b": None},
                {"b": 1, name: 2, "a": 3, "c": 4}, {name: EMPTY, "a": EMPTY, 7: EMPTY},
            ):
                self.assertIsNone(caught(BadRoutines, Play, routines, "a"))
        for word in KEPT_WORDS:
            self.assertIsNone(caught(BadRoutines, Play, {word: EMPTY, "b": EMPTY}, word))

    def test_values_that_are_no_routines(self):
        play = Play(FOUR, "a")
        for value in wrong_values() + [play, (EMPTY,), [EMPTY], {"a": EMPTY}, (("tell", "p", 1),), Routine]:
            if not isinstance(value, Routine):
                self.assertEqual(caught(BadRoutines, Play, {"a": value, "b": EMPTY}, "a"), "a")
                self.assertEqual(caught(BadRoutines, Play, {"b": value, "a": EMPTY}, "a"), "b")
                self.assertEqual(caught(BadRoutines, Play, {"c": value, "b": value, "a": EMPTY}, "a"), "b")
                self.assertEqual(caught(BadRoutines, Play, {"c": None, "aa": 1, "b": value, "ab": EMPTY}, "a"), "aa")

    def test_bad_own(self):
        for value in wrong_values() + ["x", "us", "ab", ("a",), ["a"], {"a": EMPTY}, 0, EMPTY, TELLS, Play(FOUR, "a")]:
            self.assertIs(caught(BadOwn, Play, FOUR, value), value)
            self.assertIs(caught(BadOwn, Play, routines=FOUR, own=value, over=()), value)

    def test_bad_over(self):
        play = Play(FOUR, "a")
        for value in wrong_values() + WRONG_OVERS + [EMPTY, play]:
            if value == ():
                continue
            self.assertIs(caught(BadOver, Play, FOUR, "a", value), value)
            self.assertIs(caught(BadOver, Play, FOUR, "a", over=value), value)
            self.assertIs(caught(BadOver, play.with_over, value), value)
            self.assertIs(caught(BadOver, play.with_over, over=value), value)

    def test_wrong_values_within_over(self):
        for value in wrong_values():
            for over in ((value,), ("a", value), (value, "z"), ("a", value, "z"), (value, value)):
                self.assertIs(caught(BadOver, Play, FOUR, "a", over), over)

    def test_bad_own_of_with_own(self):
        play = Play(FOUR, "a")
        for value in wrong_values() + ["a", "b", play, (EMPTY,), [EMPTY], {"a": EMPTY}, (("tell", "p", 1),)]:
            if not isinstance(value, Routine):
                self.assertIs(caught(BadOwn, play.with_own, value), value)
                self.assertIs(caught(BadOwn, play.with_own, routine=value), value)

    def test_order(self):
        self.assertIsNone(caught(BadRoutines, Play, {"a": 1, "B": EMPTY}, None, None))
        self.assertIsNone(caught(BadRoutines, Play, {"a": 1}, None, None))
        self.assertEqual(caught(BadRoutines, Play, {"b": 1, "a": EMPTY}, None, None), "b")
        self.assertEqual(caught(BadRoutines, Play, {"b": 1, "a": EMPTY}, "a", ()), "b")
        self.assertEqual(caught(BadOwn, Play, FOUR, "x", None), "x")
        self.assertIs(caught(BadOwn, Play, FOUR, True, ["p"]), True)
        self.assertEqual(caught(BadOver, Play, FOUR, "a", ["p"]), ["p"])


class Equality(unittest.TestCase):
    def test_equal(self):
        again = {"a": Routine(TELLS.block), "aa": Routine(()), "b": Routine(HEARS.block), "d": Routine(TELLS.block)}
        play = Play(FOUR, "b", ("p", "q"))
        for other in (Play(again, "b", ("p", "q")), Play(FOUR, "b").with_over(("p", "q")), play.with_own(HEARS), play):
            self.assertIs(play == other, True)
            self.assertIs(other == play, True)
            self.assertIs(play != other, False)

    def test_one_attribute_is_another_one(self):
        play = Play(FOUR, "b", ("p", "q"))
        for other in (
            Play(FOUR, "a", ("p", "q")), Play(FOUR, "b", ("p",)), Play(FOUR, "b"), Play(FOUR, "b", ("p", "q", "r")),
            Play({**FOUR, "d": EMPTY}, "b", ("p", "q")), Play({"b": HEARS, "aa": EMPTY, "a": TELLS}, "b", ("p", "q")),
            Play({"e": TELLS, "b": HEARS, "aa": EMPTY, "a": TELLS}, "b", ("p", "q")), play.with_own(EMPTY),
            Play({"d": TELLS, "b": EMPTY, "aa": HEARS, "a": TELLS}, "b", ("p", "q")),
        ):
            self.assertIs(play == other, False)
            self.assertIs(other == play, False)
            self.assertIs(play != other, True)

    def test_equal_to_nothing_else(self):
        play = Play(FOUR, "b")
        values = wrong_values() + [FOUR, "b", (FOUR, "b", ()), (play,), [play], {"b": play}, HEARS, TELLS, EMPTY, 0, 1]
        for value in values:
            self.assertIs(play == value, False)
            self.assertIs(value == play, False)
            self.assertIs(play != value, True)
            self.assertIs(value != play, True)

    def test_a_routine_is_not_equal_to_a_play_that_holds_it(self):
        for name in FOUR:
            play = Play(FOUR, name)
            for routine in FOUR.values():
                self.assertIs(routine == play, False)
                self.assertIs(play == routine, False)
                self.assertIs(routine != play, True)
                self.assertIs(play != routine, True)


if __name__ == "__main__":
    unittest.main()
