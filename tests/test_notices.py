"""[16], [17]: notices, rows, and the worlds that may be the case."""

import unittest

import reference
from onlyheard import notices as module
from onlyheard.errors import BadRow, TooMany
from onlyheard.notices import may_be, notice, noticed
from onlyheard.plays import Play
from onlyheard.routines import Routine
from onlyheard.worlds import behind, first_world, led, moves, worlds
from samples import (
    GOOD_NAMES, WRONG_NAMES, caught, counted, counter, endless_play, example_play, four_play, listener, wrong_values,
)

HOME = ("home",)
EXAMPLE = example_play()
OVERS = [(), ("p",), ("q",), ("r",), ("s",), ("p", "q", "r", "s"), ("a", "nobody"), ("nobody", "p", "s")]
FIRST = (("at", (0,), ()), ("at", (0,), (0,)), ("at", (0,), (0, 0)), ("at", (0,), (0,)))
TOLD = (("at", (1,), ()), ("at", (0, 1, 1), (4,)), ("at", (0,), (0, 0)), ("at", (1,), (3,)))
AT_TELL = (("at", (1,), ()), HOME, ("at", (0,), (0, 0)), ("at", (0, 0, 0), (6,)))
RIGHT = [
    ("pick", 0), ("pick", 3), ("pick", 4), ("pick", 10 ** 5000), ("told", "p"), ("told", "nobody"), ("heard", "p", 0),
    ("heard", "abcdefgh", 9), ("over", "p", 0), ("over", "z", 9),
]
WRONG = [
    ("pick",), ("pick", -1), ("pick", True), ("pick", False), ("pick", "0"), ("pick", None), ("pick", (0,)),
    ("pick", 0, 0),
    ("pick", "us", 0), ["pick", 0], ("told",), ("told", "P"), ("told", ""), ("told", "tell"), ("told", "p", 1),
    ("told", 1),
    ["told", "p"], ("told", ("p",)), ("heard",), ("heard", "p"), ("heard", "p", 10), ("heard", "p", -1),
    ("heard", "p", True), ("heard", "p", False), ("heard", "p", "1"), ("heard", "on", 1), ("heard", 1, "p"),
    ("heard", "p", 1, 1), ["heard", "p", 1], ("over", "p"), ("over", "p", 10), ("over", "p", True), ("over", 1, 1),
    ("over", "over", 1), ("over", "p", 1, "q"), ["over", "p", 1], ("Over", "p", 1), ("tell", "p"), ("hear", "p", 1),
    ("tell", "left", "us", "p"), (("pick", 0),), (), "pick", None, 0, True, ("told p",), (None, 0), (True, "p"),
    {"pick": 0},
]


def rows_of(play, longest):
    """The rows with so many notices at most that runs have, with the set of the worlds behind each."""
    blocks = {name: routine.block for name, routine in play.routines.items()}
    known = reference.Game(blocks, play.own, play.over).walk(400)
    found, todo = {}, [()]
    while todo:
        row = todo.pop()
        found[row] = reference.may_be(known, row)
        seen = {noted for world in found[row] for noted, _ in known[world].values()} - {None}
        todo += [row + (noted,) for noted in seen if len(row) < longest]
    return found


class Notices(unittest.TestCase):
    def test_own_deeds(self):
        for over in OVERS:
            play = four_play(over)
            for k in range(3):
                self.assertEqual(repr(notice(play, TOLD, ("pick", "us", k))), repr(("pick", k)))
            self.assertEqual(notice(play, AT_TELL, ("tell", "us", "right", "r")), ("told", "r"))

    def test_what_is_heard(self):
        for over in OVERS:
            play = four_play(over)
            self.assertEqual(notice(play, FIRST, ("tell", "left", "us", "p")), ("heard", "p", 3))
            world = (HOME, ("at", (0, 0, 0), (8,)), HOME, FIRST[3])
            self.assertEqual(notice(play, world, ("tell", "mid", "us", "q")), ("heard", "q", 8))

    def test_what_others_do(self):
        for over in OVERS:
            play = four_play(over)
            for move in (("pick", "mid", 0), ("pick", "mid", 1)):
                self.assertIsNone(notice(play, FIRST, move))
            wanted = ("over", "p", 3) if "p" in over else None
            self.assertEqual(notice(play, FIRST, ("tell", "left", "right", "p")), wanted)
            wanted = ("over", "s", 7) if "s" in over else None
            self.assertEqual(notice(play, TOLD, ("tell", "left", "right", "s")), wanted)

    def test_another_routine_is_the_own_one(self):
        routines = four_play().routines
        for over in OVERS:
            left, mid, right = (Play(routines, own, over) for own in ("left", "mid", "right"))
            self.assertEqual(notice(left, FIRST, ("tell", "left", "us", "p")), ("told", "p"))
            self.assertEqual(notice(right, FIRST, ("tell", "left", "right", "p")), ("heard", "p", 3))
            self.assertEqual(notice(mid, FIRST, ("pick", "mid", 1)), ("pick", 1))
            self.assertIsNone(notice(right, FIRST, ("pick", "mid", 1)))
            self.assertIsNone(notice(left, TOLD, ("pick", "us", 0)))
            wanted = ("over", "p", 3) if "p" in over else None
            self.assertEqual(notice(mid, FIRST, ("tell", "left", "us", "p")), wanted)

    def test_by_name(self):
        self.assertEqual(notice(play=four_play(), world=FIRST, move=("tell", "left", "us", "p")), ("heard", "p", 3))

    def test_noticed(self):
        run = [
            ("tell", "left", "right", "p"), ("pick", "mid", 1), ("tell", "mid", "us", "q"),
            ("tell", "left", "right", "s"),
        ]
        self.assertEqual(noticed(four_play(), run), [("heard", "q", 4)])
        self.assertEqual(noticed(four_play(("p",)), run), [("over", "p", 3), ("heard", "q", 4)])
        self.assertEqual(noticed(four_play(("s",)), run), [("heard", "q", 4), ("over", "s", 7)])
        self.assertEqual(noticed(play=four_play(("p", "s")), run=run), [
            ("over", "p", 3), ("heard", "q", 4), ("over", "s", 7)])
        self.assertEqual(noticed(four_play(), []), [])
        self.assertEqual(noticed(four_play(), run[:2]), [])

    def test_a_row_is_that_of_the_notices_one_by_one(self):
        play = four_play(("p",))
        run = [("pick", "mid", 0), ("tell", "mid", "us", "q"), ("tell", "us", "right", "r"), ("pick", "us", 2)]
        found = [notice(play, world, move) for world, move in zip(led(play, run), run)]
        self.assertEqual(found, [None, ("heard", "q", 0), ("told", "r"), ("pick", 2)])
        self.assertEqual(noticed(play, run), found[1:])

    def test_long_runs(self):
        row = noticed(counted(3210), [("tell", "teller", "us", "p")] * 3210)
        self.assertEqual(row, [("heard", "p", k % 10) for k in range(3210)])
        unseen = Play({"us": Routine(()), "teller": counter(3210), "x": listener()}, "us")
        self.assertEqual(noticed(unseen, [("tell", "teller", "x", "p")] * 3210), [])

    def test_functions_stand_in_their_module(self):
        for name in ("notice", "noticed", "may_be"):
            self.assertEqual(getattr(module, name).__module__, "onlyheard.notices")


class MayBe(unittest.TestCase):
    def test_the_empty_row(self):
        self.assertEqual(may_be(EXAMPLE, []), [
            (("at", (0,), (0, 0)), ("at", (0,), (0,))), (("at", (1,), (1, 0)), ("at", (0,), (0,))),
            (("at", (1,), (2, 0)), ("at", (0,), (0,))),
        ])
        self.assertEqual(may_be(play=endless_play(), row=[]), [first_world(endless_play())])

    def test_longer_rows(self):
        row = [("heard", "p", 2), ("pick", 1), ("told", "q")]
        wanted = [
            [(("at", (2,), (2, 0)), ("at", (1,), (2,)))], [(("at", (2,), (2, 0)), ("at", (1, 1, 0), (2,)))],
            [(HOME, HOME)],
        ]
        for many in (1, 2, 3):
            self.assertEqual(may_be(EXAMPLE, row[:many]), wanted[many - 1])
        row[1] = ("pick", 0)
        self.assertEqual(may_be(EXAMPLE, row), [(("fail", (3, 1, 0)), HOME)])

    def test_rows_that_no_run_has(self):
        for row in (
            [("pick", 0)], [("told", "q")], [("heard", "p", 0)], [("heard", "q", 1)], [("over", "p", 1)],
            [("told", "x")],
            [("heard", "p", 1), ("pick", 2)], [("heard", "p", 1), ("pick", 10 ** 5000)], [("heard", "p", 1)] * 2,
            [("heard", "p", 1), ("pick", 0), ("told", "q"), ("pick", 0)], RIGHT, RIGHT * 6,
        ):
            self.assertEqual(may_be(EXAMPLE, row), [])

    def test_the_order_of_stands(self):
        line = ("open", ((("home",),), (("fail",),), (("tell", "p", 1),), (("set", "a", 1), ("tell", "p", 1))))
        play = Play({"foe": Routine((line,)), "us": Routine(())}, "us")
        stands = [("at", (0,), (0,)), ("at", (0, 2, 0), (0,)), ("at", (0, 3, 1), (1,)), ("fail", (0, 1, 0)), HOME]
        self.assertEqual(may_be(play, []), [(stand, HOME) for stand in stands])

    def test_all_rows_of_plays(self):
        for over in OVERS:
            play = four_play(over)
            found = rows_of(play, 7)
            self.assertGreater(len(found), 5)
            for row, some in found.items():
                self.assertEqual(may_be(play, list(row)), sorted(some))
                self.assertEqual(len({world[3] for world in some}), 1)

    def test_overhearing_leaves_less(self):
        deaf, hearing = four_play(), four_play(("p", "q", "s"))
        self.assertGreater(len(may_be(deaf, [])), len(may_be(hearing, [])))
        self.assertEqual(len(may_be(hearing, [])), 3)
        some = may_be(hearing, [("over", "p", 3)])
        self.assertEqual({world[2] for world in some}, {("at", (1,), (3, 0))})

    def test_all_worlds_where_nothing_is_noticed(self):
        play = Play({"us": Routine(()), "teller": counter(399), "x": listener()}, "us")
        self.assertEqual(may_be(play, []), sorted(worlds(play)))
        self.assertEqual(may_be(play.with_over(("p",)), []), [first_world(play)])
        self.assertEqual(len(may_be(play.with_over(("p",)), [("over", "p", k % 10) for k in range(60)])), 1)

    def test_rows_of_sixty_items(self):
        play = counted(100)
        row = [("heard", "p", k % 10) for k in range(60)]
        self.assertEqual(may_be(play, row), [led(play, [("tell", "teller", "us", "p")] * 60)[-1]])
        self.assertEqual(may_be(play, row[:-1] + [("heard", "p", 8)]), [])
        self.assertEqual(caught(BadRow, may_be, play, row + [("heard", "p", 0)]), -1)
        self.assertEqual(may_be(EXAMPLE, [("told", "q")] * 60), [])

    def test_rows_with_many_unseen_moves(self):
        blocks = {"us": Routine((("repeat", (("hear", "q", "a"),)),)), "x": listener()}
        bell = ("open", ((("tell", "q", 1),), (("tell", "p", 1),)))
        play = Play({**blocks, "bell": Routine((("repeat", (bell,)),))}, "us")
        self.assertEqual(caught(BadRow, may_be, play, [("heard", "q", 1)] * 61), -1)
        self.assertEqual(len(may_be(play, [("heard", "q", 1)] * 60)), 6)
        self.assertEqual(len(may_be(play, [])), 6)


class Errors(unittest.TestCase):
    def test_not_a_list(self):
        for value in wrong_values() + [(), tuple(RIGHT), RIGHT[0], {}, {0: RIGHT[0]}, "", EXAMPLE]:
            if not isinstance(value, list):
                self.assertEqual(repr(caught(BadRow, may_be, EXAMPLE, value)), "-1")
                self.assertEqual(caught(BadRow, may_be, play=EXAMPLE, row=value), -1)

    def test_too_long(self):
        for many in (61, 62, 1000, 100000):
            self.assertEqual(caught(BadRow, may_be, EXAMPLE, [("told", "q")] * many), -1)
            self.assertEqual(caught(BadRow, may_be, EXAMPLE, [None] * many), -1)
        self.assertEqual(caught(BadRow, may_be, EXAMPLE, [None] * 60), 0)
        self.assertEqual(caught(BadRow, may_be, EXAMPLE, [("told", "q")] * 59 + [None]), 59)

    def test_the_first_wrong_item(self):
        for wrong in WRONG:
            for index in range(4):
                for rest in ([], [None], RIGHT):
                    # No run of the play has such a row, and the item is wrong all the same.
                    self.assertEqual(repr(caught(BadRow, may_be, EXAMPLE, RIGHT[:index] + [wrong] + rest)), repr(index))

    def test_right_forms(self):
        for item in RIGHT:
            self.assertEqual(may_be(EXAMPLE, [item]), [])
            self.assertEqual(may_be(EXAMPLE, [item, item]), [])
        for name in GOOD_NAMES:
            self.assertEqual(may_be(EXAMPLE, [("told", name), ("heard", name, 1), ("over", name, 2)]), [])
        for name in WRONG_NAMES:
            for item in (("told", name), ("heard", name, 1), ("over", name, 1)):
                self.assertEqual(caught(BadRow, may_be, EXAMPLE, [RIGHT[0], item]), 1)

    def test_wrong_values_as_items_and_within_them(self):
        for value in wrong_values():
            items = [value, (value, 0), (value, "p"), ("told", value), ("heard", value, 1)]
            items += [("heard", "p", value), ("over", value, 1), ("over", "p", value), ("told", "p", value)]
            if value != "over":
                items.append((value, "p", 1))
            if type(value) is not int or value < 0:
                items.append(("pick", value))
            for item in items:
                self.assertEqual(caught(BadRow, may_be, EXAMPLE, [("heard", "p", 1), item]), 1)

    def test_flags_do_not_pass_for_integers(self):
        heard = ("heard", "p", 1)
        for item in (("heard", "p", True), ("heard", "p", False)):
            self.assertEqual(caught(BadRow, may_be, EXAMPLE, [item]), 0)
        for item in (("pick", True), ("pick", False)):
            self.assertEqual(caught(BadRow, may_be, EXAMPLE, [heard, item]), 1)
            self.assertEqual(len(may_be(EXAMPLE, [heard, ("pick", int(item[1]))])), 1)

    def test_too_many(self):
        for many, wanted in ((399, 1), (400, None)):
            play = counted(many)
            for row in ([], [("heard", "p", 0)]):
                if wanted is None:
                    self.assertEqual(caught(TooMany, may_be, play, row), 400)
                else:
                    self.assertEqual(len(may_be(play, row)), wanted)

    def test_too_many_comes_last_also_for_rows_that_no_run_has(self):
        play = counted(400)
        for row in ([("told", "x")], [("heard", "p", 9)], RIGHT):
            self.assertEqual(caught(TooMany, may_be, play, row), 400)
        for row in (None, (), [("told", "x")] * 61):
            self.assertEqual(caught(BadRow, may_be, play, row), -1)
        self.assertEqual(caught(BadRow, may_be, play, [("heard", "p", 0), ("heard", "p", True)]), 1)
        self.assertEqual(caught(BadRow, may_be, play, [("told", "x"), None]), 1)


class Again(unittest.TestCase):
    def test_returned_lists_are_new(self):
        row = [("heard", "p", 2)]
        for _ in range(3):
            some = may_be(EXAMPLE, row)
            self.assertEqual(some, [(("at", (2,), (2, 0)), ("at", (1,), (2,)))])
            some.clear()
            empty = may_be(EXAMPLE, [("told", "q")])
            self.assertEqual(empty, [])
            empty.append(None)
            caught(BadRow, may_be, EXAMPLE, [row])
        self.assertEqual(row, [("heard", "p", 2)])

    def test_rows_stay_as_they_were(self):
        row = [("heard", "p", 2), ["pick", 0], None]
        self.assertEqual(caught(BadRow, may_be, EXAMPLE, row), 1)
        self.assertEqual(row, [("heard", "p", 2), ["pick", 0], None])

    def test_moves_behind_and_notice_go_together(self):
        play = four_play(("s",))
        for world in worlds(play):
            for move in moves(play, world):
                self.assertIn(behind(play, world, move), worlds(play))
                noted = notice(play, world, move)
                self.assertTrue(noted is None or type(noted) is tuple)


if __name__ == "__main__":
    unittest.main()
