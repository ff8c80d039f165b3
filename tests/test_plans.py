"""[19], [20], [21]: aims, plans, and the judge of plans."""

import copy
import unittest

from onlyheard import plans as module
from onlyheard.errors import BadAim, TooMany
from onlyheard.plans import plan_fault
from onlyheard.plays import Play
from onlyheard.routines import Routine
from onlyheard.worlds import worlds
from planned import (
    ALSO_1, BAD_2, ENDED, EXAMPLE, FAILED, FIRST, GOOD_1, GOOD_2, HEAR, HEARD_1, HEARD_2, HOME_STAND, PICK_1, PICK_2,
    PICKED_1, PICKED_2, SILENT, TELL, WORLDS, changed, example_plan, wrong_aims, wrong_but,
)
from samples import caught, counted, endless_play, example_play, listener, wrong_values

PLAN = example_plan()
EMPTY = (HOME_STAND, (), None, None, {})


def fault(plan, aim="safe", play=EXAMPLE):
    return plan_fault(play, aim, plan)


def at(value):
    """A stand of a routine without names."""
    return ("at", value, ())


class Holds(unittest.TestCase):
    def test_the_samples_tell_the_worlds(self):
        self.assertEqual(sorted(worlds(EXAMPLE)), WORLDS)

    def test_plans_that_hold(self):
        for aim in ("safe", "going"):
            self.assertIsNone(fault(PLAN, aim))
        for aim in (2, 3, 39, 40):
            self.assertIsNone(fault(example_plan(aim), aim))

    def test_by_name(self):
        self.assertIsNone(plan_fault(play=EXAMPLE, aim="safe", plan=PLAN))
        self.assertEqual(plan_fault(plan=[], aim=3, play=EXAMPLE), ("form", -1))
        self.assertEqual(plan_fault.__module__, "onlyheard.plans")
        self.assertIs(module.plan_fault, plan_fault)

    def test_the_other_block_holds_where_it_tells_the_same(self):
        plan = changed(changed(PLAN, 1, 3, 1), 1, 4, {("pick", 1): 3})
        self.assertIsNone(fault(changed(changed(plan, 3, 0, ALSO_1[1]), 3, 1, (ALSO_1,))))

    def test_states_without_worlds(self):
        for state in (EMPTY, (("fail", (9, 9)), (), None, None, {})):
            self.assertEqual(fault(PLAN + [state]), None if state == EMPTY else ("form", 6))
        own = [FIRST[1], HEARD_1[1], GOOD_1[1], ALSO_1[1], HOME_STAND, ("at", (0,), (9,)), ("at", (1,), (0,))]
        for stand in own:
            pick = 1 if stand[:2] == ("at", (1,)) else None
            for nexts in ({}, {("pick", 1): 6}, {"any": 0, ("told", "q"): 2, None: 6}):
                self.assertIsNone(fault(PLAN + [(stand, (), None, pick, nexts)]))

    def test_states_that_are_larger_than_they_need_to_be(self):
        # "us" cannot have heard 1 and be where it picked block 1, by this plan; the worlds may stand there anyway.
        one = (GOOD_2[1], (GOOD_2,), None, None, {("told", "q"): 5})
        plan = PLAN[:5] + [(HOME_STAND, (ENDED,), None, None, {}), one, (ALSO_1[1], (ALSO_1,), None, None, one[4])]
        self.assertIsNone(fault(plan))

    def test_needless_keys(self):
        for key in (None, "pick", ("pick", 1), ("told", "q"), ("heard", "p", 3), ("over", "p", 1), (), ((("a",),),), 7):
            plan = changed(PLAN, 5, 4, {key: 0})
            self.assertIsNone(fault(plan))
            self.assertIsNone(fault(changed(PLAN, 1, 4, {**PLAN[1][4], key: 0}) if key != ("pick", 0) else PLAN))

    def test_keys_are_looked_up_as_python_looks_them_up(self):
        for index, key, value in ((1, ("pick", False), 3), (2, ("pick", True), 4)):
            self.assertIsNone(fault(changed(PLAN, index, 4, {key: value})))


class Overheard(unittest.TestCase):
    """A play in which "us" overhears a digit, and need not care."""

    def setUp(self):
        teller = Routine((("open", ((("tell", "p", 1),), (("tell", "p", 2),))), ("hear", "q", "x")))
        line = ("open", ((("tell", "q", 1),), (("home",),)))
        self.play = Play({"a": teller, "b": Routine((("hear", "p", "y"),)), "us": Routine((line,))}, "us", ("p",))
        stands = [world[0] for world in worlds(self.play)]
        self.line, self.tell_1, self.tell_2 = [min(s for s in stands if s[:2] == ("at", path))
                                               for path in ((0,), (0, 0, 0), (0, 1, 0))]
        self.waits = ("at", (1,), (0,))
        self.deaf = [("at", (0,), (0,)), ("home",), ("home",)]

    def world(self, teller, many, own):
        return (teller, self.deaf[0] if many == 0 else HOME_STAND, own)

    def plan(self, left):
        """Home at once; what is overheard before that and behind it changes nothing of what is left."""
        behind = ("at", (0,), ())
        before = tuple(sorted(self.world(s, 0, behind) for s in (self.line, self.tell_1, self.tell_2)))
        home = tuple(sorted(self.world(s, 0, HOME_STAND) for s in (self.line, self.tell_1, self.tell_2)))
        states = [(behind, before, left, 1, {("pick", 1): 2, ("over", "p", 1): 1, ("over", "p", 2): 1})]
        states.append((behind, (self.world(self.waits, 1, behind),), left, 1, {("pick", 1): 3}))
        states.append((HOME_STAND, home, left, None, {("over", "p", 1): 3, ("over", "p", 2): 3}))
        return states + [(HOME_STAND, (self.world(self.waits, 1, HOME_STAND),), left, None, {})]

    def test_left_stays_behind_what_is_overheard_and_behind_picks(self):
        for aim in ("safe", "going"):
            self.assertIsNone(plan_fault(self.play, aim, self.plan(None)))
        for left in (0, 1, 40):
            plan = self.plan(left)
            self.assertIsNone(plan_fault(self.play, left, plan))
            if left > 0:
                for index in (1, 2):
                    wrong = changed(plan, index, 2, left - 1)
                    self.assertEqual(plan_fault(self.play, left, wrong)[:2], ("noticed", 0))
                wrong = plan_fault(self.play, left, changed(plan, 3, 2, left - 1))
                self.assertEqual(wrong[:2], ("noticed", 1))

    def test_what_is_overheard_must_be_told(self):
        first = self.world(self.tell_1, 0, ("at", (0,), ()))
        for key in (1, 2):
            nexts = {("pick", 1): 2, ("over", "p", 3 - key): 1}
            wrong = plan_fault(self.play, "safe", changed(self.plan(None), 0, 4, nexts))
            self.assertEqual(wrong, ("noticed", 0, self.world((self.tell_1, self.tell_2)[key - 1], 0, first[2]),
                                     ("tell", "a", "b", "p")))


class Aims(unittest.TestCase):
    def test_bad_aim(self):
        for aim in wrong_aims():
            for plan in (PLAN, [], None):
                self.assertIs(caught(BadAim, plan_fault, EXAMPLE, aim, plan), aim)
        self.assertIsNone(caught(BadAim, plan_fault, play=EXAMPLE, aim=None, plan=PLAN))
        self.assertIs(caught(BadAim, plan_fault, counted(400), True, PLAN), True)

    def test_failed_breaks_every_aim(self):
        play = Play({"foe": Routine((("fail",),)), "us": Routine(())}, "us")
        world = worlds(play)[0]
        for aim, left in (("safe", None), ("going", None), (0, 0), (40, 40)):
            self.assertEqual(plan_fault(play, aim, [(HOME_STAND, (world,), left, None, {})]), ("lost", 0, world))

    def test_stuck_breaks_every_aim_but_safe(self):
        for own, stand in (((("tell", "p", 1),), ("at", (0,), ())), ((("hear", "p", "a"),), ("at", (0,), (0,)))):
            play = Play({"foe": Routine(()), "us": Routine(own)}, "us")
            world = worlds(play)[0]
            self.assertIsNone(plan_fault(play, "safe", [(stand, (world,), None, None, {})]))
            for aim, left in (("going", None), (0, 0), (1, 1), (40, 40)):
                self.assertEqual(plan_fault(play, aim, [(stand, (world,), left, None, {})]), ("lost", 0, world))

    def test_home_is_not_stuck(self):
        play = Play({"foe": Routine((("tell", "p", 1),)), "us": Routine(())}, "us")
        for aim, left in (("safe", None), ("going", None), (0, 0), (40, 40)):
            plan = [(HOME_STAND, (worlds(play)[0],), left, None, {})]
            self.assertIsNone(plan_fault(play, aim, plan))

    def test_out_of_dealings_at_a_tell_a_hear_and_a_wait(self):
        others = {"a": Routine((("repeat", (("tell", "p", 1),)),)), "b": listener("q")}
        wait = ("wait", (("p", "x", ()),))
        for own, noted in (
            (("tell", "q", 2), ("told", "q")), (("hear", "p", "x"), ("heard", "p", 1)), (wait, ("heard", "p", 1)),
        ):
            play = Play({**others, "us": Routine((own,))}, "us")
            first = worlds(play)[0]
            after = [world for world in worlds(play) if world[2] == HOME_STAND][0]
            for n in (0, 1, 2, 40):
                plan = [(first[2], (first,), n, None, {noted: 1}), (HOME_STAND, (after,), max(n - 1, 0), None, {})]
                self.assertEqual(plan_fault(play, n, plan), ("left", 0) if n == 0 else None)
            plan = [(first[2], (first,), 1, None, {noted: 1}), (HOME_STAND, (after,), 1, None, {})]
            self.assertEqual(plan_fault(play, 1, plan)[:2], ("noticed", 0))

    def test_not_out_of_dealings_at_an_open_line_and_at_home(self):
        play = Play({"foe": Routine(()), "us": Routine((("open", ((), (("fail",),))),))}, "us")
        first, home = worlds(play)[:2]
        for n in (0, 1, 40):
            plan = [(at((0,)), (first,), n, 0, {("pick", 0): 1}), (HOME_STAND, (home,), n, None, {})]
            self.assertIsNone(plan_fault(play, n, plan))
            self.assertEqual(plan_fault(play, n, changed(plan, 0, 3, 1))[0], "noticed")

    def test_it_may_wait_for_ever_where_others_deal_on(self):
        others = {"a": Routine((("repeat", (("tell", "p", 1),)),)), "b": listener("p")}
        play = Play({**others, "us": Routine((("hear", "q", "x"),))}, "us")
        own = worlds(play)[0][2]
        self.assertIsNone(plan_fault(play, 1, [(own, tuple(sorted(worlds(play))), 1, None, {})]))
        self.assertEqual(plan_fault(play, 0, [(own, tuple(sorted(worlds(play))), 0, None, {})]), ("left", 0))


class Form(unittest.TestCase):
    def test_the_plan_itself(self):
        for aim in ("safe", "going", 3):
            for value in wrong_values() + [tuple(PLAN), {0: PLAN[0]}, PLAN[0], EXAMPLE]:
                wanted = 0 if isinstance(value, list) and 1 <= len(value) <= 2000 else -1
                self.assertEqual(repr(fault(value, aim)), repr(("form", wanted)))

    def test_the_states(self):
        for value in wrong_values() + [list(PLAN[0]), PLAN[0][:4], PLAN[0] + (None,), (), PLAN, tuple(PLAN)]:
            self.assertEqual(fault([value] + PLAN[1:]), ("form", 0))
            self.assertEqual(fault(PLAN + [value]), ("form", 6))
            self.assertEqual(fault(PLAN[:2] + [value] + PLAN[3:5] + [value]), ("form", 2))

    def test_stands(self):
        wrong = wrong_values() + [
            ("at", (0,), (0, 0)), ("at", (0,), ()), ("at", (0,), (True,)), ("at", (False,), (0,)), ("at", (0,), (10,)),
            ["at", (0,), (0,)], ("at", (5,), (0,)), ("at", (1, 0), (0,)), ("fail", (0,)), ("home", ()), FIRST[0],
            ("home", 0), ("at", (0,), (0,), ()), FIRST,
        ]
        for value in wrong:
            self.assertEqual(fault(changed(PLAN, 0, 0, value)), ("form", 0))
            self.assertEqual(fault(PLAN + [(value, (), None, None, {})]), ("form", 6))

    def test_stands_of_a_fail(self):
        play = Play({"foe": Routine(()), "us": Routine((("open", ((("home",),), (("fail",),))),))}, "us")
        first = worlds(play)[0]
        home = (HOME_STAND, HOME_STAND)
        plan = [(first[1], (first,), None, 0, {("pick", 0): 1}), (HOME_STAND, (home,), None, None, {})]
        self.assertIsNone(plan_fault(play, "safe", plan + [(("fail", (0, 1, 0)), (), None, None, {})]))
        lost = plan + [(("fail", (0, 1, 0)), ((HOME_STAND, ("fail", (0, 1, 0))),), None, None, {})]
        self.assertEqual(plan_fault(play, "safe", lost), ("lost", 2, (HOME_STAND, ("fail", (0, 1, 0)))))

    def test_worlds(self):
        flags = (("at", (False,), (0, 0)), FIRST[1]), (("at", (0,), (False, 0)), FIRST[1])
        never = (("at", (2,), (3, 0)), HEARD_1[1]), (HOME_STAND, FIRST[1]), (("at", (2,), (1, 0)), HOME_STAND)
        wrong = wrong_but(()) + [
            (SILENT[1], SILENT[0], SILENT[2]), (FIRST, FIRST), SILENT + (PICKED_2,), (PICKED_2, FIRST), list(SILENT),
            (list(FIRST),), FIRST, {FIRST: 1}, (FIRST, None), (None, FIRST), (FIRST, True), (FIRST + FIRST,),
            (FIRST[:1],), *[(world,) for world in flags], *[(world,) for world in never], ((FIRST[1], FIRST[0]),),
            ((("at", [0], (0, 0)), FIRST[1]),), ((("at", (0,), [0, 0]), FIRST[1]),), ((["home"], HOME_STAND),),
            ((("fail", (False,)), HOME_STAND),), ((("fail", (3, True, 0)), HOME_STAND),), (("home", "home"),), ((),),
        ]
        for value in wrong:
            for index in (0, 3):
                self.assertEqual(fault(changed(PLAN, index, 1, value)), ("form", index))
        for stand in (("at",), ("at", (0,)), ("fail",), ("home",), ("at", (0, 0))):
            self.assertEqual(fault(changed(PLAN, 0, 1, ((stand, FIRST[1]),))), ("form", 0))
        for value in wrong_values():
            self.assertEqual(fault(changed(PLAN, 0, 1, (FIRST, value))), ("form", 0))
            for place in (0, 1):
                world = [FIRST[0], FIRST[1]]
                world[place] = value
                self.assertEqual(fault(changed(PLAN, 0, 1, (tuple(world),))), ("form", 0))
            for stand in (("at", value, (0, 0)), ("at", (0,), value), ("at", (0,), (0, value)), (value, (0,), (0, 0))):
                self.assertEqual(fault(changed(PLAN, 0, 1, ((stand, FIRST[1]),))), ("form", 0))
            for stand in (("at", (0,), (0, 0), value), ("home", value), ("fail", value), ("fail", (3, 1, 0), value)):
                self.assertEqual(fault(changed(PLAN, 0, 1, ((stand, FIRST[1]),))), ("form", 0))
            if value != "home":
                self.assertEqual(fault(changed(PLAN, 5, 1, (((value,), HOME_STAND),))), ("form", 5))

    def test_left(self):
        for value in wrong_but(None) + [0, 1, 2]:
            for aim in ("safe", "going"):
                self.assertEqual(fault(changed(PLAN, 0, 2, value), aim), ("form", 0))
                self.assertEqual(fault(changed(PLAN, 5, 2, value), aim), ("form", 5))
        for aim in (2, 3):
            for value in wrong_values() + [aim + 1, 41, -1, True, False]:
                self.assertEqual(fault(changed(example_plan(aim), 1, 2, value), aim), ("form", 1))
                self.assertEqual(fault(changed(example_plan(aim), 0, 2, value), aim), ("form", 0))
        self.assertEqual(fault(example_plan(3), 2), ("form", 0))
        self.assertEqual(fault(PLAN, 2), ("form", 0))
        self.assertEqual(fault(example_plan(2), "safe"), ("form", 0))

    def test_picks(self):
        for value in wrong_values() + [2, -1, True, False, None, (0,), [1], "1"]:
            self.assertEqual(fault(changed(PLAN, 1, 3, value)), ("form", 1))
        for index in (0, 3, 5):
            for value in wrong_but(None) + [0, 1, -1]:
                self.assertEqual(fault(changed(PLAN, index, 3, value)), ("form", index))

    def test_numbers_of_states(self):
        for value in wrong_but({}, {0: 1}) + [6, -1, True, False, None]:
            self.assertEqual(fault(changed(PLAN, 5, 4, {"a": value})), ("form", 5))
            self.assertEqual(fault(changed(PLAN, 0, 4, {**PLAN[0][4], (): value, "b": 1})), ("form", 0))
            if not isinstance(value, int):
                self.assertEqual(fault(changed(PLAN, 5, 4, value)), ("form", 5))
        for value in ([], [0], (), {("told", "q")}):
            self.assertEqual(fault(changed(PLAN, 5, 4, value)), ("form", 5))
        self.assertIsNone(fault(changed(PLAN, 5, 4, {0: 1, "a": 5, None: 0})))

    def test_one_state_2000_and_2001(self):
        self.assertEqual(fault([]), ("form", -1))
        one = Play({"foe": Routine(()), "us": Routine(())}, "us")
        self.assertIsNone(plan_fault(one, "safe", [(HOME_STAND, (ENDED,), None, None, {})]))
        self.assertIsNone(fault(PLAN + [EMPTY] * 1994))
        self.assertEqual(fault(PLAN + [EMPTY] * 1995), ("form", -1))
        self.assertEqual(fault(PLAN + [EMPTY] * 1993 + [None]), ("form", 1999))
        last = (HOME_STAND, (FAILED,), None, None, {})
        self.assertEqual(fault(PLAN + [EMPTY] * 1993 + [last]), ("lost", 1999, FAILED))

    def test_form_goes_ahead_of_all_else(self):
        plan = changed(changed(PLAN, 0, 1, (FAILED,)), 5, 3, 0)
        self.assertEqual(fault(plan), ("form", 5))
        self.assertEqual(fault(changed(plan, 2, 2, 1)), ("form", 2))


class Start(unittest.TestCase):
    def test_the_first_world(self):
        for some in ((), SILENT[1:], (HEARD_1,), (FAILED,)):
            self.assertEqual(fault(changed(PLAN, 0, 1, some)), ("start",))
        self.assertEqual(fault(PLAN[1:2] + PLAN[1:]), ("start",))

    def test_what_is_left_there(self):
        for left in (0, 1, 2):
            self.assertEqual(fault(changed(example_plan(3), 0, 2, left), 3), ("start",))
        self.assertEqual(fault(example_plan(2), 3), ("start",))

    def test_it_goes_ahead_of_the_faults_of_states(self):
        self.assertEqual(fault(changed(PLAN, 0, 1, (FAILED,))), ("start",))
        self.assertEqual(fault(changed(changed(example_plan(3), 0, 2, 0), 0, 1, (FIRST, HEARD_1)), 3), ("start",))


class Faults(unittest.TestCase):
    def test_own(self):
        self.assertEqual(fault(changed(PLAN, 0, 0, HOME_STAND)), ("own", 0, FIRST))
        self.assertEqual(fault(changed(PLAN, 0, 1, SILENT + (HEARD_1, HEARD_2))), ("own", 0, HEARD_1))
        self.assertEqual(fault(changed(PLAN, 1, 1, (PICKED_1, HEARD_1))), ("own", 1, PICKED_1))
        self.assertEqual(fault(PLAN + [(FIRST[1], (ENDED,), None, None, {})]), ("own", 6, ENDED))

    def test_lost(self):
        self.assertEqual(fault(changed(PLAN, 5, 1, (FAILED, ENDED))), ("lost", 5, FAILED))
        self.assertEqual(fault(changed(changed(PLAN, 2, 3, 0), 2, 4, {("pick", 0): 3}))[:2], ("noticed", 2))
        bad = [(BAD_2[1], (BAD_2,), None, None, {("told", "q"): 5})]
        wrong = changed(changed(PLAN + bad, 2, 3, 0), 2, 4, {("pick", 0): 6})
        self.assertEqual(fault(wrong), ("noticed", 6, BAD_2, TELL))
        self.assertEqual(fault(changed(wrong, 5, 1, (FAILED, ENDED))), ("lost", 5, FAILED))

    def test_stuck_is_lost_for_going_and_numbers(self):
        play = Play({"foe": Routine((("open", ((("tell", "p", 1),), ())),)), "us": Routine((("hear", "p", "a"),))},
            "us")
        first, tells, stuck, end = sorted(worlds(play), key=worlds(play).index)
        nexts = {("heard", "p", 1): 1}
        some = tuple(sorted([first, tells, stuck]))
        plan = [(first[1], some, None, None, nexts), (HOME_STAND, (end,), None, None, {})]
        self.assertIsNone(plan_fault(play, "safe", plan))
        self.assertEqual(plan_fault(play, "going", plan), ("lost", 0, stuck))
        plan = [(first[1], some, 1, None, nexts), (HOME_STAND, (end,), 0, None, {})]
        self.assertEqual(plan_fault(play, 1, plan), ("lost", 0, stuck))
        self.assertEqual(plan_fault(play, 1, changed(plan, 0, 2, 0)), ("start",))

    def test_left(self):
        plan = example_plan(2)
        for index, wanted in ((3, ("noticed", 1)), (4, ("noticed", 2))):
            self.assertEqual(fault(changed(plan, index, 2, 0), 2)[:2], wanted)
        short = changed(changed(plan, 1, 2, 0), 3, 2, 0)
        self.assertEqual(fault(short, 2), ("noticed", 0, PICKED_1, HEAR))
        self.assertEqual(fault(plan + [(GOOD_1[1], (), 0, None, {})], 2), ("left", 6))
        self.assertEqual(fault(plan + [(FIRST[1], (FIRST,), 0, None, {})], 2), ("left", 6))
        for stand, pick in ((HEARD_1[1], 0), (HOME_STAND, None)):
            self.assertIsNone(fault(plan + [(stand, (), 0, pick, {})], 2))

    def test_unseen(self):
        self.assertEqual(fault(changed(PLAN, 0, 1, (FIRST,))), ("unseen", 0, FIRST, PICK_1))
        self.assertEqual(fault(changed(PLAN, 0, 1, (FIRST, PICKED_1))), ("unseen", 0, FIRST, PICK_2))
        self.assertEqual(fault(changed(PLAN, 0, 1, (FIRST, PICKED_2))), ("unseen", 0, FIRST, PICK_1))

    def test_noticed(self):
        for nexts, wanted in (
            ({}, (PICKED_1, HEAR)), ({("heard", "p", 1): 1}, (PICKED_2, HEAR)),
            ({("heard", "p", 1): 2, ("heard", "p", 2): 2}, (PICKED_1, HEAR)),
            ({("heard", "p", 1): 1, ("heard", "p", 2): 1}, (PICKED_2, HEAR)),
            ({("heard", "p", 1): 0, ("heard", "p", 2): 0}, (PICKED_1, HEAR)),
        ):
            self.assertEqual(fault(changed(PLAN, 0, 4, nexts)), ("noticed", 0, *wanted))
        self.assertEqual(fault(changed(PLAN, 1, 4, {})), ("noticed", 1, HEARD_1, ("pick", "us", 0)))
        self.assertEqual(fault(changed(PLAN, 1, 4, {("pick", 1): 3})), ("noticed", 1, HEARD_1, ("pick", "us", 0)))
        self.assertEqual(fault(changed(PLAN, 2, 4, {("pick", 0): 3})), ("noticed", 2, HEARD_2, ("pick", "us", 1)))
        self.assertEqual(fault(changed(PLAN, 4, 4, {("told", "q"): 0})), ("noticed", 4, GOOD_2, TELL))

    def test_left_behind_what_is_noticed(self):
        plan = example_plan(4)
        for index, left, wanted in (
            (1, 4, ("noticed", 0, PICKED_1, HEAR)), (1, 2, ("noticed", 0, PICKED_1, HEAR)),
            (2, 2, ("noticed", 0, PICKED_2, HEAR)), (3, 2, ("noticed", 1, HEARD_1, ("pick", "us", 0))),
            (4, 4, ("noticed", 2, HEARD_2, ("pick", "us", 1))), (5, 3, ("noticed", 3, GOOD_1, TELL)),
            (5, 1, ("noticed", 3, GOOD_1, TELL)),
        ):
            self.assertEqual(fault(changed(plan, index, 2, left), 4), wanted)

    def test_which_goes_first_in_a_state(self):
        teller = ("tell", "p", 1)
        play = Play({"a": Routine((("open", ((("fail",),), (teller,))),)), "us": Routine((("hear", "p", "x"),))}, "us")
        first, failed, tells, end = worlds(play)
        self.assertEqual([failed[0][0], tells[0][1], end], ["fail", (0, 1, 0), ENDED])
        for aim, some, wanted in (
            (0, [first, failed, tells, end], ("own", 0, end)), (0, [first, failed, tells], ("lost", 0, failed)),
            (0, [first, tells], ("left", 0)), (1, [first, tells], ("unseen", 0, first, ("pick", "a", 0))),
        ):
            state = (first[1], tuple(sorted(some)), aim, None, {})
            self.assertEqual(plan_fault(play, aim, [state]), wanted)
        alone = Play({**play.routines, "a": Routine((teller,))}, "us")
        first = worlds(alone)[0]
        self.assertEqual(plan_fault(alone, 1, [(first[1], (first,), 1, None, {})])[:3], ("noticed", 0, first))

    def test_the_first_state_goes_first(self):
        plan = changed(changed(PLAN, 1, 4, {}), 2, 1, (FIRST, HEARD_2))
        self.assertEqual(fault(plan), ("noticed", 1, HEARD_1, ("pick", "us", 0)))
        self.assertEqual(fault(changed(plan, 1, 1, (FIRST, HEARD_1))), ("own", 1, FIRST))


class Bounds(unittest.TestCase):
    def test_too_many(self):
        for aim in ("safe", "going", 0, 40):
            for plan in (PLAN, [], None, [None]):
                self.assertEqual(caught(TooMany, plan_fault, counted(400), aim, plan), 400)
                self.assertIsNotNone(plan_fault(counted(399), aim, plan))

    def test_long_chains(self):
        play = counted(399)
        chain = worlds(play)
        plan = [(world[1], (world,), None, None, {("heard", "p", k % 10): k + 1}) for k, world in enumerate(chain)]
        self.assertEqual(plan_fault(play, "safe", plan), ("form", 399))
        plan[399] = plan[399][:4] + ({},)
        self.assertIsNone(plan_fault(play, "safe", plan))
        self.assertEqual(plan_fault(play, "going", plan), ("lost", 399, chain[399]))

    def test_states_that_lead_to_themselves(self):
        play = endless_play()
        first, second = worlds(play)
        nexts = {("heard", "p", 1): 1}
        plan = [(first[1], (first,), None, None, nexts), (second[1], (second,), None, None, nexts)]
        self.assertIsNone(plan_fault(play, "going", plan))
        many = 40
        counts = [plan[min(k, 1)][:2] + (many - k, None, {("heard", "p", 1): min(k + 1,
            many)}) for k in range(many + 1)]
        self.assertEqual(plan_fault(play, many, counts), ("left", 40))


class Again(unittest.TestCase):
    def test_what_was_passed_stays_as_it_was(self):
        for plan in (example_plan(), changed(PLAN, 0, 4, {"a": 1}), changed(PLAN, 5, 1, (FAILED, ENDED)), [None]):
            before = copy.deepcopy(plan)
            wanted = fault(plan)
            for _ in range(2):
                caught(BadAim, plan_fault, EXAMPLE, None, plan)
                self.assertEqual(fault(plan), wanted)
            self.assertEqual(plan, before)
        self.assertEqual(EXAMPLE, example_play())


if __name__ == "__main__":
    unittest.main()
