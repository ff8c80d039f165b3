"""[14]: worlds, the moves in them, failed and stuck ones."""

import unittest

from onlyheard import worlds as module
from onlyheard.errors import NoMove, NoWorld
from onlyheard.notices import notice
from onlyheard.plays import Play
from onlyheard.routines import Routine
from onlyheard.worlds import behind, first_world, is_failed, is_stuck, moves, worlds
from samples import caught, example_play, four_play, wrong_values

HOME = ("home",)
FAILED = ("fail", (1, 1, 0))
PLAY = four_play()
# The stands of "left", "mid", "right" and "us".
FIRST = (("at", (0,), ()), ("at", (0,), (0,)), ("at", (0,), (0, 0)), ("at", (0,), (0,)))
TOLD = (("at", (1,), ()), ("at", (0,), (0,)), ("at", (0,), (0, 0)), ("at", (1,), (3,)))
# No run comes to these two.
STRANGE = (("at", (1,), ()), ("at", (0, 0, 0), (9,)), ("at", (1,), (5, 6)), ("at", (0, 0, 0), (8,)))
DEAF = (("at", (1,), ()), HOME, HOME, ("at", (0,), (1,)))
PICK_MID = ("pick", "mid", 0)
PICK_US = ("pick", "us", 2)
TELL_US = ("tell", "left", "us", "p")
CALLS = [
    moves, is_failed, is_stuck, lambda play, world: behind(play, world, TELL_US),
    lambda play, world: notice(play, world, TELL_US),
]
NO_STANDS = [
    ("at", (0,), (0,)), ("at", (1,), (3,)), ("at", (True,), (3, 0)), ("at", (1,), (True, 0)), ("at", (1,), (0, False)),
    ("at", (0,), [0, 0]), ("at", [0], (0, 0)), ["at", (0,), (0, 0)], ("at", (2,), (0, 0)), ("at", (0,), (0, 10)),
    ("at", (0,), (0, -1)), ("at", (0,), (0, 0), 0), ("at", (0, 0, 0), (0, 0)), ("fail", (0,)), ("fail", (1, 1, 0)),
    ("home", 1), ["home"], "home", ("at", (0,)), ("on", (0,), (0, 0)), (), ((0,), (0, 0)), {"home": 1},
]


def changed(world, index, stand):
    return world[:index] + (stand,) + world[index + 1:]


class Moves(unittest.TestCase):
    def test_first_world(self):
        self.assertEqual(first_world(PLAY), FIRST)
        self.assertEqual(first_world(play=example_play()), (("at", (0,), (0, 0)), ("at", (0,), (0,))))
        self.assertEqual(first_world(Play({"b": Routine(()), "a": Routine((("fail",),))}, "b")), (("fail", (0,)), HOME))

    def test_each_kind(self):
        self.assertEqual(moves(PLAY, FIRST), [
            ("pick", "mid", 0), ("pick", "mid", 1), ("tell", "left", "right", "p"), ("tell", "left", "us", "p")])
        self.assertEqual(moves(PLAY, TOLD), [
            ("pick", "mid", 0), ("pick", "mid", 1), ("pick", "us", 0), ("pick", "us", 1), ("pick", "us", 2),
            ("tell", "left", "right", "s")])
        self.assertEqual(moves(PLAY, STRANGE), [("tell", "left", "right", "s")])
        self.assertEqual(moves(PLAY, DEAF), [])

    def test_several_tell_and_several_hear(self):
        world = changed(FIRST, 1, ("at", (0, 1, 1), (4,)))
        self.assertEqual(moves(PLAY, world), [
            ("tell", "left", "right", "p"), ("tell", "left", "us", "p"), ("tell", "mid", "us", "q")])
        hears = Routine((("hear", "p", "a"),))
        play = Play({"a": hears, "c": hears, "d": hears, "b": Routine((("tell", "p", 5),))}, "c")
        self.assertEqual(moves(play, first_world(play)), [("tell", "b", name, "p") for name in "acd"])
        told = behind(play, first_world(play), ("tell", "b", "c", "p"))
        self.assertEqual(told, (("at", (0,), (0,)), HOME, HOME, ("at", (0,), (0,))))

    def test_two_that_tell_at_one_port(self):
        tells = Routine((("tell", "p", 5),))
        play = Play({"a": tells, "c": Routine((("hear", "p", "a"),)), "b": tells}, "c")
        self.assertEqual(moves(play, first_world(play)), [("tell", "a", "c", "p"), ("tell", "b", "c", "p")])

    def test_a_teller_does_not_hear_itself(self):
        both = Routine((("tell", "p", 5), ("hear", "p", "a")))
        play = Play({"a": both, "b": both}, "a")
        self.assertEqual(moves(play, first_world(play)), [])
        world = (("at", (1,), (0,)), ("at", (0,), (0,)))
        self.assertEqual(moves(play, world), [("tell", "b", "a", "p")])

    def test_picks_go_first_and_ascend(self):
        line = Routine((("open", ((), (), ())), ("tell", "p", 1)))
        teller, hearer = Routine((("tell", "p", 1),)), Routine((("hear", "p", "x"),))
        play = Play({"b": line, "aa": line, "a": teller, "c": hearer}, "b")
        self.assertEqual(moves(play, first_world(play)), [
            ("pick", "aa", 0), ("pick", "aa", 1), ("pick", "aa", 2), ("pick", "b", 0), ("pick", "b", 1),
            ("pick", "b", 2),
            ("tell", "a", "c", "p")])

    def test_all_moves_are_ascending(self):
        for play in (PLAY, example_play()):
            for world in worlds(play):
                found = moves(play, world)
                self.assertIs(type(found), list)
                self.assertEqual(found, sorted(set(found)))

    def test_behind(self):
        for world, move, wanted in (
            (FIRST, PICK_MID, changed(FIRST, 1, ("at", (0, 0, 0), (0,)))),
            (FIRST, ("pick", "mid", 1), changed(FIRST, 1, ("at", (0, 1, 1), (4,)))),
            (FIRST, TELL_US, TOLD),
            (FIRST, ("tell", "left", "right", "p"), (("at", (1,), ()), FIRST[1], ("at", (1,), (3, 0)), FIRST[3])),
            (TOLD, ("tell", "left", "right", "s"), (HOME, TOLD[1], ("at", (1,), (0, 7)), TOLD[3])),
            (TOLD, ("pick", "us", 0), changed(TOLD, 3, HOME)),
            (TOLD, ("pick", "us", 1), changed(TOLD, 3, FAILED)),
            (TOLD, PICK_US, changed(TOLD, 3, HOME)),
            (STRANGE, ("tell", "left", "right", "s"), (HOME, STRANGE[1], HOME, STRANGE[3])),
        ):
            self.assertEqual(behind(PLAY, world, move), wanted)
            self.assertEqual(behind(play=PLAY, world=world, move=move), wanted)

    def test_what_was_told_is_heard(self):
        world = (HOME, ("at", (0, 1, 1), (6,)), ("at", (0,), (1, 2)), ("at", (0,), (5,)))
        after = behind(PLAY, world, ("tell", "mid", "us", "q"))
        self.assertEqual(after, (HOME, HOME, ("at", (0,), (1, 2)), ("at", (0, 0, 0), (6,))))
        last = behind(PLAY, after, ("tell", "us", "right", "r"))
        self.assertEqual(last, (HOME, HOME, ("at", (1,), (6, 2)), ("at", (1,), (6,))))

    def test_functions_stand_in_their_module(self):
        for name in ("first_world", "moves", "behind", "is_failed", "is_stuck", "led", "worlds"):
            self.assertEqual(getattr(module, name).__module__, "onlyheard.worlds")


class FailedAndStuck(unittest.TestCase):
    def test_failed(self):
        for world in (FIRST, TOLD, STRANGE, DEAF, (HOME,) * 4):
            self.assertIs(is_failed(PLAY, world), False)
            self.assertIs(is_failed(PLAY, changed(world, 3, FAILED)), True)
        self.assertIs(is_failed(play=PLAY, world=FIRST), False)

    def test_a_failed_world_has_no_moves_and_is_not_stuck(self):
        for world in (FIRST, TOLD, STRANGE, DEAF, (HOME,) * 4):
            world = changed(world, 3, FAILED)
            self.assertEqual(moves(PLAY, world), [])
            self.assertIs(is_stuck(PLAY, world), False)
            for move in (PICK_MID, ("pick", "us", 0), TELL_US, ("tell", "left", "right", "p")):
                self.assertEqual(caught(NoMove, behind, PLAY, world, move), move)
                self.assertEqual(caught(NoMove, notice, PLAY, world, move), move)

    def test_another_routine_failed(self):
        play = Play({"foe": Routine((("fail",),)), "us": Routine((("open", ((),)),))}, "us")
        world = first_world(play)
        self.assertEqual([is_failed(play, world), is_stuck(play, world), moves(play, world)], [True, False, []])
        self.assertEqual(worlds(play), [world])

    def test_stuck(self):
        self.assertIs(is_stuck(PLAY, DEAF), True)
        self.assertIs(is_stuck(play=PLAY, world=DEAF), True)
        for stand in (("at", (0, 0, 0), (2,)), ("at", (0,), (9,))):
            self.assertIs(is_stuck(PLAY, changed(DEAF, 3, stand)), True)

    def test_not_stuck_where_there_is_a_move(self):
        for world in (FIRST, TOLD, STRANGE, changed(DEAF, 1, FIRST[1]), changed(DEAF, 3, TOLD[3])):
            self.assertIs(is_stuck(PLAY, world), False)

    def test_not_stuck_where_the_own_routine_is_home(self):
        for world in (changed(DEAF, 3, HOME), (HOME,) * 4):
            self.assertEqual([moves(PLAY, world), is_stuck(PLAY, world)], [[], False])
        stuck = [name for name in PLAY.names() if is_stuck(Play(PLAY.routines, name), DEAF)]
        self.assertEqual(stuck, ["left", "us"])


class Errors(unittest.TestCase):
    def test_no_world(self):
        others = [list(FIRST), FIRST[:3], FIRST + (HOME,), FIRST[0], (FIRST,), [FIRST], "home", HOME]
        for value in wrong_values() + others:
            for call in CALLS:
                self.assertIs(caught(NoWorld, call, PLAY, value), value)

    def test_one_part_is_wrong(self):
        for stand in NO_STANDS + wrong_values():
            for base in (FIRST, changed(DEAF, 3, FAILED)):
                world = changed(base, 2, stand)
                for call in CALLS:
                    self.assertIs(caught(NoWorld, call, PLAY, world), world)
        for index in (0, 1, 3):
            for stand in wrong_values() + ["home", ["home"], ("at", (7,), ()), ("fail", (0,)), ("home", ())]:
                world = changed(FIRST, index, stand)
                for call in CALLS:
                    self.assertIs(caught(NoWorld, call, PLAY, world), world)

    def test_wrong_values_within_one_part(self):
        for value in wrong_values():
            for stand in (
                ("at", value, (0, 0)), ("at", (value,), (0, 0)), ("at", (0,), value), ("at", (0,), (0, value)),
                ("fail", value), ("fail", (value,)), (value, (0,), (0, 0)), ("home", value),
            ):
                world = changed(FIRST, 2, stand)
                self.assertIs(caught(NoWorld, moves, PLAY, world), world)
                self.assertIs(caught(NoWorld, behind, PLAY, world, None), world)

    def test_stands_of_another_routine(self):
        for world in (FIRST[::-1], (FIRST[1],) * 4, changed(FIRST, 0, FIRST[1]), changed(FIRST, 0, FAILED)):
            for call in CALLS:
                self.assertIs(caught(NoWorld, call, PLAY, world), world)

    def test_no_move(self):
        values = wrong_values() + [
            ("pick", "us", 0), ("pick", "mid", 2), ("pick", "mid", -1), ("pick", "left", 0), ("pick", "nobody", 0),
            ("pick", "mid", True), ("pick", "mid", False), ("pick", "mid", "0"), ("pick", "mid", (0,)), ("pick", "mid"),
            ("pick", "mid", 0, 0), ["pick", "mid", 0], ("pick", 0, "mid"), ("Pick", "mid", 0), (), "pick", ("pick",),
            ("tell", "left", "mid", "p"), ("tell", "left", "left", "p"), ("tell", "us", "left", "p"),
            ("tell", "left", "us", "s"), ("tell", "left", "us", "q"), ("tell", "left", "us"),
            ["tell", "left", "us", "p"],
            ("tell", "mid", "us", "q"), ("tell", "left", "us", "p", 3), ("told", "p"), ("heard", "p", 3), None,
            ("tell", "us", "left", "r"), ("hear", "us", "left", "p"), (PICK_MID,), [PICK_MID], {"pick": 1}, PLAY,
        ]
        for value in values:
            for call in (behind, notice):
                self.assertIs(caught(NoMove, call, PLAY, FIRST, value), value)
                self.assertIs(caught(NoMove, call, play=PLAY, world=FIRST, move=value), value)

    def test_wrong_values_within_moves(self):
        for value in wrong_values():
            for move in (
                ("pick", "mid", value), ("pick", value, 0), (value, "mid", 0), ("pick", "mid", 0, value),
                ("tell", "left", "us", value), ("tell", "left", value, "p"), ("tell", value, "us", "p"),
                (value, "left", "us", "p"), ("tell", "left", "us", "p", value),
            ):
                if value == "tell" and move == TELL_US:
                    continue
                for call in (behind, notice):
                    self.assertIs(caught(NoMove, call, PLAY, FIRST, move), move)

    def test_flags_do_not_pass_for_blocks(self):
        for k in (False, True):
            for move in (("pick", "mid", k), ("pick", "us", k)):
                for call in (behind, notice):
                    self.assertIs(caught(NoMove, call, PLAY, TOLD, move), move)
                    call(PLAY, TOLD, (move[0], move[1], int(k)))

    def test_no_world_goes_first(self):
        for value in (None, list(FIRST), changed(FIRST, 0, ("at", (False,), ()))):
            for move in (None, True, ("pick", "us", 9)):
                for call in (behind, notice):
                    self.assertIs(caught(NoWorld, call, PLAY, value, move), value)


class Again(unittest.TestCase):
    def test_returned_lists_are_new(self):
        for _ in range(3):
            found = moves(PLAY, FIRST)
            self.assertEqual(len(found), 4)
            found.clear()
            listed = worlds(PLAY)
            self.assertEqual(listed[0], FIRST)
            listed[0] = None
            listed.reverse()

    def test_behind_errors(self):
        for _ in range(3):
            caught(NoWorld, moves, PLAY, list(FIRST))
            caught(NoMove, behind, PLAY, FIRST, ["pick", "mid", 0])
            self.assertEqual(len(moves(PLAY, FIRST)), 4)
            self.assertEqual(behind(PLAY, FIRST, TELL_US), TOLD)

    def test_wrong_values_stay_as_they_were(self):
        world, move = list(FIRST), ["pick", "mid", 0]
        caught(NoWorld, behind, PLAY, world, move)
        caught(NoMove, behind, PLAY, FIRST, move)
        self.assertEqual([world, move], [list(FIRST), ["pick", "mid", 0]])


if __name__ == "__main__":
    unittest.main()
