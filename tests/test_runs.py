"""[15], [16]: runs, the worlds and the rows of runs, and the walk through all worlds."""

import unittest

import reference
from onlyheard.errors import BadRun, TooMany
from onlyheard.notices import noticed
from onlyheard.plays import Play
from onlyheard.routines import Routine
from onlyheard.worlds import behind, first_world, is_stuck, led, moves, worlds
from samples import (
    ENDLESS, caught, counted, counter, endless_play, example_play, four_play, listener, picker, wrong_values,
)

PLAY = four_play()
EXAMPLE = example_play()
RUN = [("pick", "foe", 1), ("tell", "foe", "us", "p"), ("pick", "us", 0), ("tell", "us", "foe", "q")]
TELL = ("tell", "teller", "us", "p")
CALLS = [led, noticed]


class Led(unittest.TestCase):
    def test_the_empty_run(self):
        for play in (PLAY, EXAMPLE, endless_play()):
            self.assertEqual(led(play, []), [first_world(play)])

    def test_a_run_step_by_step(self):
        wanted = [
            (("at", (0,), (0, 0)), ("at", (0,), (0,))), (("at", (1,), (2, 0)), ("at", (0,), (0,))),
            (("at", (2,), (2, 0)), ("at", (1,), (2,))), (("at", (2,), (2, 0)), ("at", (1, 0, 0), (2,))),
            (("fail", (3, 1, 0)), ("home",)),
        ]
        for many in range(5):
            self.assertEqual(led(EXAMPLE, RUN[:many]), wanted[:many + 1])
        self.assertEqual(led(play=EXAMPLE, run=RUN), wanted)

    def test_with_all_four_routines(self):
        run = [
            ("pick", "mid", 1), ("tell", "mid", "us", "q"), ("tell", "us", "right", "r"), ("pick", "us", 0),
        ]
        last = led(PLAY, run)[-1]
        self.assertEqual(last, (("at", (0,), ()), ("home",), ("at", (1,), (4, 0)), ("home",)))
        self.assertEqual(moves(PLAY, last), [])
        self.assertIs(is_stuck(PLAY, last), False)

    def test_each_world_is_behind_the_one_ahead_of_it(self):
        play, run = counted(120), [TELL] * 120
        found = led(play, run)
        self.assertEqual(len(found), 121)
        for index, move in enumerate(run):
            self.assertEqual(found[index + 1], behind(play, found[index], move))

    def test_long_runs(self):
        found = led(counted(3500), [TELL] * 3500)
        self.assertEqual(len(found), 3501)
        self.assertEqual(found[1234], (("at", (0, 0, 0), (1, 2, 3, 4)), ("at", (0, 0, 0), (3,))))
        self.assertEqual(found[-1], (("home",), ("at", (0, 0, 0), (9,))))

    def test_thirty_thousand(self):
        play = endless_play()
        found = led(play, [ENDLESS] * 30000)
        self.assertEqual(len(found), 30001)
        self.assertEqual(found[1:], [found[1]] * 30000)
        self.assertEqual(noticed(play, [ENDLESS] * 30000), [("heard", "p", 1)] * 30000)


class Errors(unittest.TestCase):
    def test_not_a_list(self):
        for value in wrong_values() + [tuple(RUN), (), RUN[0], {0: RUN[0]}, "", (RUN,), PLAY]:
            if isinstance(value, list):
                continue
            for call in CALLS:
                self.assertEqual(repr(caught(BadRun, call, EXAMPLE, value)), "-1")
                self.assertEqual(caught(BadRun, call, play=EXAMPLE, run=value), -1)

    def test_too_long(self):
        play = endless_play()
        for call in CALLS:
            for value in ([ENDLESS] * 30001, [None] * 30001, [ENDLESS] * 100000, [None] + [ENDLESS] * 30000):
                self.assertEqual(caught(BadRun, call, play, value), -1)
            self.assertEqual(caught(BadRun, call, play, [None] * 30000), 0)
            self.assertEqual(caught(BadRun, call, play, [ENDLESS] * 29999 + [None]), 29999)

    def test_the_first_wrong_item(self):
        for index in range(5):
            for wrong in (None, RUN[0] + (0,), ("pick", "foe", True), ["pick", "foe", 1], ("tell", "us", "foe", "p")):
                for rest in ([], [None], RUN[index:]):
                    for call in CALLS:
                        found = caught(BadRun, call, EXAMPLE, RUN[:index] + [wrong] + rest)
                        self.assertEqual(repr(found), repr(index))

    def test_wrong_values_as_items(self):
        for value in wrong_values():
            for index in (0, 2, 4):
                for call in CALLS:
                    self.assertEqual(caught(BadRun, call, EXAMPLE, RUN[:index] + [value]), index)

    def test_wrong_values_within_items(self):
        for value in wrong_values():
            for move in (("pick", "us", value), ("pick", value, 0), (value, "us", 0), ("pick", "us", 0, value)):
                for call in CALLS:
                    self.assertEqual(caught(BadRun, call, EXAMPLE, RUN[:2] + [move] + RUN[3:]), 2)

    def test_lists_of_wrong_values(self):
        for value in wrong_values():
            if isinstance(value, list) and value:
                for call in CALLS:
                    self.assertEqual(caught(BadRun, call, EXAMPLE, value), 0 if len(value) <= 30000 else -1)

    def test_a_move_that_is_possible_elsewhere(self):
        for call in CALLS:
            self.assertEqual(caught(BadRun, call, EXAMPLE, RUN[1:]), 0)
            self.assertEqual(caught(BadRun, call, EXAMPLE, RUN[:2] + RUN[3:]), 2)
            self.assertEqual(caught(BadRun, call, EXAMPLE, RUN + RUN), 4)
            self.assertEqual(caught(BadRun, call, EXAMPLE, [RUN[0], RUN[0]]), 1)
            self.assertEqual(caught(BadRun, call, EXAMPLE, RUN[:2] + [("pick", "us", 2)]), 2)

    def test_runs_stay_as_they_were(self):
        for run in (list(RUN), RUN + [None], [["pick", "foe", 1]]):
            before = list(run)
            for call in CALLS:
                try:
                    call(EXAMPLE, run).clear()
                except BadRun:
                    pass
            self.assertEqual(run, before)
        self.assertEqual(len(led(EXAMPLE, RUN)), 5)
        self.assertEqual(noticed(EXAMPLE, RUN), [("heard", "p", 2), ("pick", 0), ("told", "q")])


class Walk(unittest.TestCase):
    def test_the_order(self):
        self.assertEqual(worlds(EXAMPLE), [
            (("at", (0,), (0, 0)), ("at", (0,), (0,))),
            (("at", (1,), (1, 0)), ("at", (0,), (0,))), (("at", (1,), (2, 0)), ("at", (0,), (0,))),
            (("at", (2,), (1, 0)), ("at", (1,), (1,))), (("at", (2,), (2, 0)), ("at", (1,), (2,))),
            (("at", (2,), (1, 0)), ("at", (1, 0, 0), (1,))), (("at", (2,), (1, 0)), ("at", (1, 1, 0), (1,))),
            (("at", (2,), (2, 0)), ("at", (1, 0, 0), (2,))), (("at", (2,), (2, 0)), ("at", (1, 1, 0), (2,))),
            (("home",), ("home",)), (("fail", (3, 1, 0)), ("home",)),
        ])

    def test_the_order_is_not_that_of_the_worlds(self):
        found = worlds(PLAY)
        self.assertEqual(found[0], first_world(PLAY))
        self.assertEqual(found[1:5], [behind(PLAY, found[0], move) for move in moves(PLAY, found[0])])
        self.assertNotEqual(found, sorted(found))
        game = reference.Game({name: routine.block for name, routine in PLAY.routines.items()}, "us")
        self.assertEqual(found, list(game.walk(400)))

    def test_worlds_do_not_come_twice(self):
        self.assertEqual(len(worlds(endless_play())), 2)
        for play in (PLAY, EXAMPLE, counted(30)):
            self.assertEqual(len(set(worlds(play))), len(worlds(play)))

    def test_one_world(self):
        for block in ((), (("home",),), (("fail",),), (("hear", "p", "a"),), (("tell", "p", 1),)):
            play = Play({"a": Routine(block), "b": Routine(())}, "a")
            self.assertEqual(worlds(play=play), [first_world(play)])

    def test_overheard_ports_change_nothing(self):
        self.assertEqual(worlds(four_play(("p", "q", "r", "s"))), worlds(PLAY))
        self.assertEqual(led(example_play(("p", "q")), RUN), led(EXAMPLE, RUN))

    def test_four_hundred_and_one_more(self):
        self.assertEqual(len(worlds(counted(399))), 400)
        self.assertEqual(caught(TooMany, worlds, counted(400)), 400)
        self.assertEqual(caught(TooMany, worlds, play=counted(401)), 400)
        self.assertEqual(caught(TooMany, worlds, counted(9999)), 400)

    def test_four_hundred_in_several_directions(self):
        for many in ((19, 19), (3, 9, 9), (4, 4, 15), (20, 19), (3, 9, 10)):
            play = Play({"us": Routine(()), **{name: picker(size) for name, size in zip("abc", many)}}, "us")
            if many not in ((20, 19), (3, 9, 10)):
                self.assertEqual(len(worlds(play)), 400)
            else:
                self.assertEqual(caught(TooMany, worlds, play), 400)

    def test_worlds_that_no_run_comes_to_do_not_count(self):
        lonely = Play({"us": listener("q"), "teller": counter(9999)}, "us")
        self.assertEqual(worlds(lonely), [first_world(lonely)])


if __name__ == "__main__":
    unittest.main()
