"""[26], [27], [28]: runs that break an aim, fixed picks, and picks that are needed."""

import copy
import unittest

from onlyheard import picks as module
from onlyheard.errors import BadAim, BadPicks, NoPath, NoPick, TooMany
from onlyheard.picks import alone, breaking, fixed, fixed_play, least_home, needed, struck
from onlyheard.plays import Play
from onlyheard.routines import Routine
from onlyheard.worlds import is_failed, is_stuck, led, worlds
from onlyheard.writing import written
from planned import EXAMPLE, wrong_aims, wrong_but
from samples import (
    bells, caught, counted, counter, endless_play, example_play, four_play, listener, picker, wrong_values,
)

FAIL = ("fail",)
AIMS = ("safe", "going", 0, 1, 2, 3, 40)
X = ("name", "x")
# Both blocks of the first line lead to lines; those of the last one are all alike.
INNER = ("open", ((FAIL,), ()))
LINES = (("open", ((INNER,), (("set", "a", 1),), (INNER, FAIL))), ("open", ((), ())))
LINE_PATHS = [(0,), (0, 0, 0), (0, 2, 0), (1,)]


def line(*blocks):
    return ("open", blocks)


def tell(port, value):
    return ("tell", port, value)


def play(own, over=(), **others):
    return Play({"us": Routine(own), **{name: Routine(block) for name, block in others.items()}}, "us", over)


NESTED = play(LINES, foe=())


class Breaking(unittest.TestCase):
    def test_shortest_and_first(self):
        # "foe" and "us" pick unlike digits: two picks, a hear and a tell.
        for aim, wanted in (
            ("safe", [("pick", "foe", 1), ("tell", "foe", "us", "p"), ("pick", "us", 0), ("tell", "us", "foe", "q")]),
            ("going", [("pick", "foe", 1), ("tell", "foe", "us", "p"), ("pick", "us", 0), ("tell", "us", "foe", "q")]),
            (0, []), (1, [("pick", "foe", 0), ("tell", "foe", "us", "p"), ("pick", "us", 0)]),
            (2, [("pick", "foe", 1), ("tell", "foe", "us", "p"), ("pick", "us", 0), ("tell", "us", "foe", "q")]),
        ):
            self.assertEqual(repr(breaking(EXAMPLE, aim)), repr(wanted))

    def test_none(self):
        for aim in AIMS:
            self.assertIsNone(breaking(play((), foe=(tell("p", 1),)), aim))
        for aim in ("safe", "going"):
            self.assertIsNone(breaking(endless_play(), aim))
        self.assertEqual(breaking(endless_play(), 3), [("tell", "teller", "us", "p")] * 3)

    def test_the_first_world_breaks_the_aim_at_once(self):
        for aim in AIMS:
            self.assertEqual(breaking(play((FAIL,), foe=(tell("p", 1),)), aim), [])
            self.assertEqual(breaking(play((), foe=(FAIL,)), aim), [])
            stuck = play((("hear", "p", "x"),), foe=())
            self.assertEqual(breaking(stuck, aim), None if aim == "safe" else [])

    def test_picks_of_all_routines(self):
        one = play((line((), (FAIL,)),), foe=(line((), (), (FAIL,)),))
        self.assertEqual(breaking(one, "safe"), [("pick", "foe", 2)])
        self.assertEqual(breaking(play((line((), (FAIL,)),), foe=(line(()),)), "safe"), [("pick", "us", 1)])
        later = play((line((), (line((FAIL,)),)),), foe=(line((line((FAIL,)),)),))
        self.assertEqual(breaking(later, "safe"), [("pick", "foe", 0), ("pick", "foe", 0)])

    def test_of_runs_of_one_length_the_first(self):
        # Two moves in either order; and many ways to the same fail.
        own = (line((), (line((FAIL,), (FAIL,)),)),)
        one = play(own, a=(line((), ()),), b=(line((), ()),))
        self.assertEqual(breaking(one, "safe"), [("pick", "us", 1), ("pick", "us", 0)])
        test = ("if", ("same", ("plus", X, ("name", "y")), 2), (FAIL,), ())
        foe = (line((("set", "x", 1),), ()), line((("set", "y", 1),), ()), ("hear", "q", "z"), test)
        teller = (line((tell("q", 1),), (tell("q", 2),)),)
        wanted = [("pick", "foe", 0), ("pick", "foe", 0), ("pick", "us", 0), ("tell", "us", "foe", "q")]
        self.assertEqual(breaking(play(teller, foe=foe), "safe"), wanted)

    def test_stuck(self):
        one = play((line((("hear", "p", "a"),), ()),), foe=(line((), (tell("p", 1),)),))
        self.assertIsNone(breaking(one, "safe"))
        for aim in ("going", 1, 2, 40):
            self.assertEqual(breaking(one, aim), [("pick", "foe", 0), ("pick", "us", 0)])
        self.assertEqual(breaking(one, 0), [("pick", "us", 0)])

    def test_out_of_dealings(self):
        deal = (tell("q", 1), line((), ()), ("hear", "p", "x"), ("wait", (("p", "x", ()),)))
        one = play(deal, foe=(("hear", "q", "z"), tell("p", 1), tell("p", 2)))
        run = [("tell", "us", "foe", "q"), ("pick", "us", 0), ("tell", "foe", "us", "p"), ("tell", "foe", "us", "p")]
        for aim, wanted in ((0, []), (1, run[:2]), (2, run[:3]), (3, None), (40, None)):
            self.assertEqual(breaking(one, aim), wanted)
        # Those of others do not count.
        other = play((("hear", "z", "a"),), foe=(("repeat", (tell("p", 1),)),), x=listener().block)
        self.assertIsNone(breaking(other, 1))
        self.assertEqual(breaking(other, 0), [])

    def test_what_it_returns_breaks_the_aim(self):
        for one in (EXAMPLE, four_play(), four_play(("p", "s"))):
            for aim in AIMS:
                run = breaking(one, aim)
                if run is not None:
                    world = led(one, run)[-1]
                    self.assertTrue(isinstance(aim, int) or is_failed(one, world) or is_stuck(one, world))

    def test_bad_aim(self):
        for call in (breaking, fixed, needed, alone):
            for aim in wrong_aims():
                self.assertIs(caught(BadAim, call, EXAMPLE, aim), aim)
            self.assertIsNone(caught(BadAim, call, play=EXAMPLE, aim=None))
            self.assertIs(caught(BadAim, call, counted(400), True), True)

    def test_400_worlds_and_401(self):
        for aim in ("safe", "going", 0):
            for call in (breaking, fixed):
                self.assertEqual(caught(TooMany, call, counted(400), aim), 400)
                call(counted(399), aim)
        self.assertEqual(len(breaking(counted(399), "going")), 399)

    def test_400_pairs_and_401(self):
        # Each world of the teller can be with each number of dealings.
        for many, aim in ((100, 3), (80, 4), (20, 19), (50, 7), (200, 1), (400, 0)):
            one = bells(many, over=())
            self.assertEqual(len(breaking(one, aim)), aim)
            for call in (breaking, fixed):
                call(one, aim)
                self.assertEqual(caught(TooMany, call, one, aim + 1), 400)
                call(one, "going")

    def test_401_pairs(self):
        # Two pairs ahead, and then each world of the teller with each number of dealings.
        bell = (tell("r", 0), tell("g", 0), ("repeat", (tell("p", 0),)))
        own = (("hear", "r", "a"), ("repeat", (("hear", "p", "a"),)))
        for many, aim, is_more in ((199, 2, False), (133, 3, True), (57, 7, True), (21, 19, True)):
            teller = (("hear", "g", "y"), *counter(many - 1, "q").block)
            one = play(own, bell=bell, teller=teller, x=listener("q").block)
            self.assertEqual([len(worlds(one)), 2 + many * aim], [2 + many, 401 if is_more else 400])
            if is_more:
                self.assertEqual(caught(TooMany, breaking, one, aim), 400)
                self.assertEqual(caught(TooMany, fixed, one, aim), 400)
            else:
                self.assertEqual(len(breaking(one, aim)), aim + 1)
                self.assertIsNone(fixed(one, aim))

    def test_not_on_behind_n_dealings(self):
        # At a tell, a hear or a wait nobody deals on, though there are worlds behind that.
        wait = ("wait", (("p", "a", ()),))
        for last in (tell("p", 0), ("hear", "p", "a"), wait):
            one = play((("hear", "p", "a"), last), bell=(("repeat", (tell("p", 0),)),))
            self.assertEqual(breaking(one, 1), [("tell", "bell", "us", "p")])


class Fixed(unittest.TestCase):
    def test_no_open_line(self):
        one = play((tell("p", 1),), foe=(("hear", "p", "x"),))
        for aim, wanted in (("safe", {}), ("going", {}), (0, None), (1, {})):
            self.assertEqual(fixed(one, aim), wanted)
        for aim in AIMS:
            self.assertIsNone(fixed(play((FAIL,), foe=()), aim))

    def test_one_line(self):
        for blocks, wanted in (
            (((FAIL,), ()), 1), (((), (FAIL,)), 0), (((FAIL,), (FAIL,), (), ()), 2), (((),), 0), (((FAIL,),), None),
            (((FAIL,), (FAIL,)), None),
        ):
            for aim in AIMS:
                found = fixed(play((line(*blocks),), foe=()), aim)
                self.assertEqual(found, None if wanted is None else {(0,): wanted})

    def test_several_lines_within_one_another(self):
        self.assertEqual(Routine(LINES).open_lines(), LINE_PATHS)
        found = fixed(NESTED, "safe")
        self.assertEqual(found, {(0,): 0, (0, 0, 0): 1, (0, 2, 0): 0, (1,): 0})
        # The one whose tuple is the first, not that which stands at the fewest lines.
        more = (line((line((FAIL,), ()), FAIL), (), ()), line((FAIL,), (FAIL,), ()))
        self.assertEqual(fixed(play(more, foe=()), 0), {(0,): 1, (0, 0, 0): 0, (1,): 2})

    def test_a_fixed_pick_is_not_enough(self):
        for aim in AIMS:
            self.assertIsNone(fixed(play((("hear", "p", "a"), line((tell("q", 1),), (tell("q", 2),))),
                                         foe=EXAMPLE.routines["foe"].block), aim))
        for aim, wanted in (("safe", {(1,): 1}), ("going", {(1,): 1}), (2, {(1,): 1}), (1, None)):
            self.assertEqual(fixed(EXAMPLE, aim), wanted)

    def test_the_same_pick_each_time(self):
        again = ("repeat", (line((tell("p", 1),), (tell("p", 2),)),))
        wants = (("hear", "p", "x"), ("if", ("same", X, 1), (), (FAIL,)))
        two = ("if", ("same", X, 2), (), (FAIL,))
        one = play((again,), foe=(*wants, *wants, ("home",)))
        self.assertEqual(fixed(one, "safe"), {(0, 0, 0): 0})
        self.assertIsNone(fixed(one, "going"))
        self.assertIsNone(fixed(play((again,), foe=(*wants, ("hear", "p", "x"), two)), "safe"))
        self.assertEqual(written(play((again,), foe=(*wants, ("hear", "p", "x"), two)), "safe")[0], "plan")

    def test_256_tuples_and_257(self):
        four = line((), (), (), ())
        two = line((), ())
        three = line((), (), ())
        inner = line((two,), ())
        for own, many in (
            ((four,) * 4, 256), ((two,) * 8, 256), ((four,) * 5, 1024), ((three,) * 5, 243), ((three,) * 6, 729),
            ((four,) * 4 + (line(()),), 256), ((four, four, two, three, three), 288), ((two,) * 9, 512),
            ((inner,) * 4, 256), ((inner,) * 4 + (two,), 512), ((line((inner,), (inner,)), four, two), 256),
            ((line((inner,), (inner,)), three, three), 288),
        ):
            one = play(own, foe=())
            if many > 256:
                self.assertEqual(caught(TooMany, fixed, one, "safe"), 256)
                self.assertEqual(caught(TooMany, fixed, play((*own, FAIL), foe=(FAIL,)), 0), 256)
            else:
                self.assertEqual(fixed(one, "safe"), {path: 0 for path in Routine(own).open_lines()})
                self.assertIsNone(fixed(play((*own, FAIL), foe=()), "safe"))

    def test_257_goes_ahead_of_400(self):
        lines = (line((), (), (), ()),) * 5
        many = {"us": Routine((("hear", "p", "x"), *lines)), "teller": counter(400), "x": listener()}
        self.assertEqual(caught(TooMany, fixed, Play(many, "us"), "safe"), 256)
        self.assertEqual(caught(TooMany, breaking, Play(many, "us"), "safe"), 400)
        fewer = {**many, "us": Routine((("hear", "p", "x"), *lines[:4]))}
        self.assertEqual(caught(TooMany, fixed, Play(fewer, "us"), "safe"), 400)

    def test_400_pairs_with_all_picks(self):
        # With either pick alone there would be no more than 400 pairs.
        one = bells(100, (line((("repeat", (("hear", "p", "x"),)),), ()),), over=())
        for call in (breaking, fixed):
            self.assertEqual(caught(TooMany, call, one, 2), 400)
        for k in (0, 1):
            picked = fixed_play(one, {(0,): k})
            self.assertEqual(fixed(picked, 2), None if k == 0 else {(0,): 0})
        self.assertEqual(fixed(bells(70, one.routines["us"].block, over=()), 2), {(0,): 1})

    def test_very_many_lines(self):
        self.assertEqual(fixed(play(picker(22).block, foe=()), "safe"), {path: 0 for path in picker(22).open_lines()})
        leaf = (line((), (), (), ()),) * 12
        block = (("if", 1, leaf, leaf),) * 12
        self.assertEqual(caught(TooMany, fixed, play((("if", 1, block, block),) * 9, foe=()), "safe"), 256)

    def test_what_is_returned_may_be_changed(self):
        first = fixed(NESTED, "safe")
        before = dict(first)
        first.clear()
        self.assertEqual(fixed(NESTED, "safe"), before)
        run = breaking(EXAMPLE, "safe")
        run.clear()
        self.assertEqual(len(breaking(EXAMPLE, "safe")), 4)


class FixedPlay(unittest.TestCase):
    def check(self, one, picks, block):
        before = copy.deepcopy(picks)
        found = fixed_play(one, picks)
        self.assertEqual(found, one.with_own(Routine(block)))
        self.assertEqual(picks, before)

    def test_lines(self):
        for over in ((), ("p",)):
            one = example_play(over)
            for k in (0, 1):
                own = one.routines["us"].block
                self.check(one, {(1,): k}, (own[0], line(own[1][1][k])))

    def test_lines_within_blocks_that_are_not_picked(self):
        for k, block in ((0, (line((FAIL,)),)), (1, (("set", "a", 1),)), (2, (line(()), FAIL))):
            picks = {(0,): k, (0, 0, 0): 0, (0, 2, 0): 1, (1,): 1}
            self.check(NESTED, picks, (line(block), line(())))
            self.check(NESTED, {path: picks[path] for path in reversed(LINE_PATHS)}, (line(block), line(())))
            for path in LINE_PATHS:
                fewer = {other: picks[other] for other in picks if other != path}
                self.assertIs(caught(BadPicks, fixed_play, NESTED, fewer), fewer)

    def test_lines_within_all_other_statements(self):
        two = line((tell("q", 1),), (tell("q", 2),))
        one = line((tell("q", 2),))
        block = (("if", 1, (two,), (("repeat", (two, ("leave",))),)), ("wait", (("p", "a", (two,)), ("q", "b", ()))))
        wanted = (("if", 1, (one,), (("repeat", (one, ("leave",))),)), ("wait", (("p", "a", (one,)), ("q", "b", ()))))
        own = play(block, foe=())
        self.check(own, {path: 1 for path in Routine(block).open_lines()}, wanted)

    def test_no_lines(self):
        one = play((tell("p", 1), ("hear", "p", "a")), foe=(line((), ()),))
        self.assertEqual(fixed_play(one, {}), one)

    def test_what_is_fixed_does_not_break_the_aim(self):
        for one, aim in ((EXAMPLE, 2), (EXAMPLE, "going"), (NESTED, "safe"), (NESTED, 0)):
            self.assertIsNone(breaking(fixed_play(one, fixed(one, aim)), aim))

    def test_bad_picks(self):
        wrong = wrong_but({}) + [
            {}, {(1,): 2}, {(1,): -1}, {(1,): True}, {(1,): False}, {(1,): None}, {(1,): (0,)}, {(1,): "0"}, {(0,): 0},
            {(True,): 0}, {(1,): 0, (0,): 0}, {(1,): 0, None: 0}, {1: 0}, {"1": 0}, {(1, 0): 0}, [((1,), 0)], ((1,), 0),
            {(1, 0, 0): 0}, {(): 0}, {(1.0,): 0}, {(1,): 0.0}, [(1,)], {((1,),): 0},
        ]
        for picks in wrong:
            self.assertIs(caught(BadPicks, fixed_play, EXAMPLE, picks), picks)
        for value in wrong_values():
            picks = {(1,): value}
            self.assertIs(caught(BadPicks, fixed_play, EXAMPLE, picks), picks)
        no_lines = play((), foe=())
        for picks in wrong[2:]:
            if picks != {}:
                self.assertIs(caught(BadPicks, fixed_play, no_lines, picks), picks)
        flags = {(0,): 0, (0, False, False): 0, (0, 2, 0): 0, (1,): 0}
        self.assertIs(caught(BadPicks, fixed_play, NESTED, flags), flags)
        self.assertIsNone(caught(BadPicks, fixed_play, play=EXAMPLE, picks=None))


class LeastHome(unittest.TestCase):
    def test_least(self):
        for many in (0, 1, 2, 5, 12):
            one = play((tell("p", 1),) * many, foe=(("hear", "p", "x"),) * 12)
            self.assertEqual(least_home(one), many)
            for most in (0, many, many + 1, 40):
                self.assertEqual(least_home(one, most=most), many if many <= most else None)
            self.assertEqual(written(one, many)[0], "plan")

    def test_most_is_12_if_it_is_left_out(self):
        count = ("repeat", (tell("p", 1), ("set", "c", ("plus", ("name", "c"), 1)),
                            ("if", ("same", ("name", "c"), 9), (("leave",),), ())))
        for more in (2, 3, 4):
            one = play((count,) + (tell("p", 1),) * more, foe=listener().block)
            self.assertEqual(least_home(one), 9 + more if more <= 3 else None)
            self.assertEqual(least_home(one, most=13), 9 + more)
        self.assertEqual(least_home(EXAMPLE), 2)

    def test_none(self):
        for most in (0, 1, 12, 40):
            self.assertIsNone(least_home(endless_play(), most=most))
            self.assertIsNone(least_home(play((("hear", "z", "a"),), foe=()), most=most))
        self.assertIsNone(least_home(EXAMPLE, most=1))

    def test_bad_aim(self):
        for most in wrong_but(10) + ["safe", "going", -1, 41, True, False, None, (1,), [1], "1"]:
            self.assertIs(caught(BadAim, least_home, EXAMPLE, most=most), most)
            self.assertIs(caught(BadAim, least_home, counted(400), most=most), most)
        with self.assertRaises(TypeError):
            least_home(EXAMPLE, 3)

    def test_too_many(self):
        self.assertEqual(caught(TooMany, least_home, counted(400)), 400)
        self.assertIsNone(least_home(counted(399)))
        # 2000 pairs for the aim `most`, though fewer decide.
        one = bells(50, (line((), (("repeat", (("hear", "p", "x"),)),)),))
        self.assertEqual(least_home(one, most=12), 0)
        self.assertEqual(caught(TooMany, least_home, one, most=40), 2000)
        self.assertEqual(caught(TooMany, written, one, 40), 2000)

    def test_by_name(self):
        self.assertEqual(least_home(play=EXAMPLE), 2)
        self.assertEqual(least_home(most=3, play=EXAMPLE), 2)


class Struck(unittest.TestCase):
    def test_blocks(self):
        one = play((line((tell("p", 0),), (tell("p", 1),), (tell("p", 2),)),), ("x",), foe=())
        for k, rest in ((0, (1, 2)), (1, (0, 2)), (2, (0, 1))):
            found = struck(one, (0,), k)
            self.assertEqual(found, one.with_own(Routine((line(*[(tell("p", digit),) for digit in rest]),))))

    def test_lines_within_one_another(self):
        for path, k, block in (
            ((0,), 0, (line((("set", "a", 1),), (INNER, FAIL)), LINES[1])),
            ((0,), 1, (line((INNER,), (INNER, FAIL)), LINES[1])),
            ((0, 0, 0), 0, (line((line(()),), (("set", "a", 1),), (INNER, FAIL)), LINES[1])),
            ((0, 2, 0), 1, (line((INNER,), (("set", "a", 1),), (line((FAIL,)), FAIL)), LINES[1])),
            ((1,), 1, (LINES[0], line(()))),
        ):
            self.assertEqual(struck(NESTED, path, k), NESTED.with_own(Routine(block)))

    def test_no_path(self):
        for path in wrong_values() + [(0, 0), (0, 1, 0), (2,), (0, 0, 0, 0, 0), (False,), (True,), (0, False, 0), [0],
                0, (-1,)]:
            for k in (0, 7, None):
                self.assertIs(caught(NoPath, struck, NESTED, path, k), path)
        self.assertIsNone(caught(NoPath, struck, play=NESTED, path=None, k=0))

    def test_no_pick(self):
        for k in wrong_values() + [3, -1, True, False, None, "0", (0,)]:
            self.assertIs(caught(NoPick, struck, NESTED, (0,), k), k)
        self.assertEqual(caught(NoPick, struck, NESTED, (1,), 2), 2)
        one = play((line((tell("p", 1),)),), foe=())
        for k in (0, 1, -1, None, False):
            self.assertIs(caught(NoPick, struck, one, (0,), k), k)

    def test_by_name(self):
        self.assertEqual(struck(k=1, path=(1,), play=NESTED), struck(NESTED, (1,), 1))


class NeededAndAlone(unittest.TestCase):
    def test_the_documents_play(self):
        for aim in ("safe", "going", 2, 40):
            self.assertEqual(repr(needed(EXAMPLE, aim)), repr([((1,), 1)]))
            self.assertEqual(repr(alone(EXAMPLE, aim)), repr([((1,), 1)]))

    def test_no_plan(self):
        for aim in (0, 1):
            self.assertEqual([needed(EXAMPLE, aim), alone(EXAMPLE, aim)], [[], []])

    def test_no_lines(self):
        self.assertEqual([needed(endless_play(), "safe"), alone(endless_play(), "safe")], [[], []])

    def test_lines_with_one_block(self):
        one = play((line((tell("p", 1),)),), foe=listener().block)
        self.assertEqual([needed(one, "safe"), alone(one, "safe")], [[], [((0,), 0)]])
        self.assertEqual([needed(one, 0), alone(one, 0)], [[], []])

    def test_none_of_them_is_needed(self):
        one = play((line((), (), (FAIL,)),), foe=())
        self.assertEqual([needed(one, 0), alone(one, 0)], [[], [((0,), 0), ((0,), 1)]])

    def test_lines_within_one_another(self):
        self.assertEqual(needed(NESTED, "safe"), [])
        self.assertEqual(alone(NESTED, "safe"), [
            ((0,), 0), ((0,), 1), ((0, 0, 0), 0), ((0, 0, 0), 1), ((0, 2, 0), 0), ((0, 2, 0), 1), ((1,), 0), ((1,), 1)])
        one = play((LINES[0][:1] + ((LINES[0][1][0], (FAIL,)),),), foe=())
        self.assertEqual(needed(one, "safe"), [((0,), 0), ((0, 0, 0), 1)])
        self.assertEqual(alone(one, "safe"), [((0,), 0), ((0, 0, 0), 1)])

    def test_lines_that_the_plan_never_comes_to(self):
        one = play((line((line((FAIL,), (FAIL,)),), ()), ("home",), line((), ())), foe=())
        self.assertEqual(needed(one, "safe"), [((0,), 1)])
        self.assertEqual(alone(one, "safe"), [((0,), 1), ((0, 0, 0), 0), ((0, 0, 0), 1), ((2,), 0), ((2,), 1)])

    def test_both_blocks_are_needed(self):
        # It must tell what it heard, now 1 and now 2.
        own = (("hear", "p", "a"), line((tell("q", 1),), (tell("q", 2),)))
        one = play(own, foe=EXAMPLE.routines["foe"].block)
        for aim in ("safe", "going", 2):
            self.assertEqual([needed(one, aim), alone(one, aim)], [[((1,), 0), ((1,), 1)], []])

    def test_the_dealings_that_are_left(self):
        own = (line((tell("p", 1), tell("p", 2)), (tell("p", 1),)),)
        one = play(own, foe=listener().block)
        self.assertEqual([needed(one, 1), alone(one, 1)], [[((0,), 1)], [((0,), 1)]])
        self.assertEqual([needed(one, 2), alone(one, 2)], [[], [((0,), 0), ((0,), 1)]])

    def test_struck_plays_have_no_plan(self):
        for one in (EXAMPLE, NESTED, play((line((FAIL,), ()), line((), (FAIL,))), foe=())):
            for aim in ("safe", 2):
                for path, k in needed(one, aim):
                    self.assertEqual(written(struck(one, path, k), aim)[0], "knot")

    def test_too_many(self):
        one = bells(50)
        for call in (needed, alone):
            self.assertEqual(caught(TooMany, call, counted(400), "safe"), 400)
            self.assertEqual(call(counted(399), "safe"), [])
            self.assertEqual(call(one, 39), [])
            self.assertEqual(caught(TooMany, call, one, 40), 2000)

    def test_what_is_returned_may_be_changed(self):
        for call in (needed, alone):
            first = call(EXAMPLE, 2)
            first.clear()
            self.assertEqual(call(EXAMPLE, 2), [((1,), 1)])
        self.assertEqual(EXAMPLE, example_play())

    def test_by_name_and_in_its_module(self):
        for call in (breaking, fixed, needed, alone):
            self.assertEqual(repr(call(play=EXAMPLE, aim=2)), repr(call(EXAMPLE, 2)))
        self.assertEqual(fixed_play(picks={(1,): 0}, play=EXAMPLE), fixed_play(EXAMPLE, {(1,): 0}))
        for name in ("breaking", "fixed", "fixed_play", "least_home", "struck", "needed", "alone"):
            self.assertEqual(getattr(module, name).__module__, "onlyheard.picks")


if __name__ == "__main__":
    unittest.main()
