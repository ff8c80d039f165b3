"""[25], [30]: routines that deal as plans tell, and several routines written out one behind the other."""

import copy
import unittest

from aimed import Alone, Planned, deals_alike, longest_way
from onlyheard import rewriting as module
from onlyheard.errors import BadAim, BadNames, BadPlan, Overheard, TooMany
from onlyheard.knots import knot_fault
from onlyheard.plans import plan_fault
from onlyheard.plays import Play
from onlyheard.rewriting import as_routine, in_turn
from onlyheard.routines import Routine
from onlyheard.stands import begun
from onlyheard.worlds import first_world, worlds
from onlyheard.writing import written
from planned import ENDED, EXAMPLE, FAILED, FIRST, HOME_STAND, changed, example_plan, wrong_aims
from reference import Game
from samples import caught, counted, endless_play, example_play, listener, wrong_values

PLAN = example_plan()
EMPTY = (HOME_STAND, (), None, None, {})
X = ("name", "x")
PICK_X = ("open", ((("set", "x", 1),), (("set", "x", 2),)))
SAME = ("if", ("same", X, ("name", "y")), (), (("fail",),))
TELLING = ("open", ((("tell", "q", 1),), (("tell", "q", 2),)))


def blocks_of(play):
    return {name: routine.block for name, routine in play.routines.items()}


class Checked(unittest.TestCase):
    def check(self, play, plan):
        """Makes a routine of a plan and compares it with the plan; the routine."""
        before = copy.deepcopy(plan)
        routine = as_routine(play, plan)
        self.assertEqual(plan, before)
        self.assertIs(type(routine), Routine)
        self.assertEqual(routine.open_lines(), [])
        known = Game(blocks_of(play), play.own).walk(400)
        there = blocks_of(play.with_own(routine))
        alone = Game(there, play.own).walk(10 ** 5)
        self.assertTrue(deals_alike(Planned(blocks_of(play), play.own, known, plan),
            Alone(there, play.own, alone, None)))
        self.assertLessEqual(longest_way(routine.block, (0, 1, 2, 9)), 4000)
        return routine


class AsRoutine(Checked):
    def test_the_documents_play(self):
        for plan in [PLAN] + [example_plan(left) for left in (2, 3, 40)]:
            routine = self.check(EXAMPLE, plan)
            self.assertEqual(routine.ports(), ["p", "q"])
            for aim in ("safe", "going", 2):
                # There are no open lines any more, and nothing breaks the aim.
                self.assertEqual(written(EXAMPLE.with_own(routine), aim)[0], "plan")
            self.assertEqual(written(EXAMPLE.with_own(routine), 1)[0], "knot")

    def test_by_name(self):
        self.assertEqual(as_routine(play=EXAMPLE, plan=PLAN), as_routine(EXAMPLE, PLAN))
        self.assertEqual(as_routine(plan=PLAN, play=EXAMPLE), as_routine(EXAMPLE, PLAN))
        for name in ("as_routine", "in_turn"):
            self.assertEqual(getattr(module, name).__module__, "onlyheard.rewriting")

    def test_home_at_once(self):
        for block in ((), (("home",),), (("open", ((), (("fail",),))),)):
            play = Play({"foe": Routine((("tell", "p", 1),)), "us": Routine(block)}, "us")
            for aim in ("safe", "going", 0, 40):
                self.assertEqual(begun(self.check(play, written(play, aim)[1])), HOME_STAND)

    def test_open_lines_that_lead_to_open_lines(self):
        line = ("open", ((("open", ((("fail",),), (("open", ((("tell", "q", 7),), ())),))),), (("fail",),)))
        play = Play({"foe": Routine((("hear", "q", "y"),)), "us": Routine((line, line))}, "us")
        for aim in ("safe", "going", 2):
            plan = written(play, aim)[1]
            self.assertGreater(sum(state[3] is not None for state in plan), 3)
            self.check(play, plan)

    def test_it_never_deals(self):
        # Nobody ever hears it, and it must tell the same digit all the same.
        for block in ((("tell", "z", 4),), (("hear", "z", "a"),), (("wait", (("z", "a", ()), ("p", "a", ()))),)):
            play = Play({"foe": Routine(()), "us": Routine((*block, ("fail",)))}, "us")
            self.check(play, written(play, "safe")[1])

    def test_waits_at_up_to_four_ports(self):
        rows = tuple((port, "a", (("tell", port, ("name", "a")),)) for port in ("d", "a", "c", "b"))
        for many in range(1, 5):
            own = Routine((("repeat", (("wait", rows[:many]),)),))
            foe = ("repeat", (("open", tuple((("tell", port, 3), ("hear", port, "x")) for port, _, _ in rows)),))
            play = Play({"foe": Routine((foe,)), "us": own}, "us")
            routine = self.check(play, written(play, "safe")[1])
            self.assertEqual(routine.ports(), sorted(row[0] for row in rows[:many]))

    def test_all_digits_that_can_be_heard(self):
        # "foe" tells 0 to 9 one after the other, and fails unless it hears the same one again.
        foe = ("repeat", (("tell", "p", X), ("hear", "q", "y"), SAME, ("set", "x", ("plus", X, 1))))
        line = ("open", tuple((("tell", "q", value),) for value in (0, ("name", "a"), ("plus", ("name", "a"), 1))))
        play = Play({"foe": Routine((foe,)), "us": Routine((("repeat", (("hear", "p", "a"), line)),))}, "us")
        plan = written(play, "safe")[1]
        self.assertLessEqual(len(plan), 40)
        self.check(play, plan)

    def test_one_of_ten_digits_at_once(self):
        picks = ("open", ((("set", "x", 1),), (("set", "x", 2),), (("set", "x", 3),), ()))
        more = ("set", "x", ("plus", ("plus", X, X), ("plus", X, ("name", "z"))))
        digits = (picks, more, ("open", ((("set", "z", 1),), ())), ("set", "x", ("plus", X, ("name", "z"))))
        foe = Routine((*digits, ("tell", "p", X), ("hear", "q", "y"), SAME))
        own = Routine((("hear", "p", "a"), ("open", ((("tell", "q", ("name", "a")),), (("tell", "q", 0),)))))
        play = Play({"foe": foe, "us": own}, "us")
        plan = written(play, 2)[1]
        self.assertGreater(len(plan[0][4]), 6)
        self.check(play, plan)

    def test_states_without_worlds(self):
        # They lead around open lines for ever, or to a fail; no run ever comes to them.
        line = Routine((("repeat", (("open", ((("tell", "q", 1),), (("fail",),))),)),))
        play = Play({"foe": Routine((("repeat", (("hear", "q", "x"),)),)), "us": line}, "us")
        plan = written(play, "safe")[1]
        stands = {state[0][1]: state[0] for state in plan}
        many = len(plan)
        self.check(play, plan + [(stands[(0, 0, 0)], (), None, 0, {("pick", 0): many})])
        fails = [(("fail", (0, 0, 0, 1, 0)), (), None, None, {}), (stands[(0, 0, 0)], (), None, 1, {("pick", 1): many})]
        keys = {("heard", "q", 1): many, ("told", "x"): many + 1, ("pick", 3): many, None: many}
        more = [state[:4] + ({**state[4], **keys},) for state in plan]
        self.check(play, more + fails)

    def test_needless_keys_of_what_is_never_heard(self):
        line = (FIRST[1], (), None, None, {})
        lead = ("at", (1,), (5,))
        round_trip = (lead, (), None, 1, {("pick", 1): 6})
        nexts = {**PLAN[0][4], ("heard", "p", 5): 6, ("heard", "q", 1): 7, ("told", "q"): 6}
        self.check(EXAMPLE, changed(PLAN, 0, 4, nexts) + [round_trip, line])
        self.check(EXAMPLE, changed(PLAN, 5, 4, {("told", "q"): 0}))

    def test_states_that_lead_to_themselves(self):
        play = endless_play()
        first, second = worlds(play)
        nexts = {("heard", "p", 1): 1}
        self.check(play, [(first[1], (first,), None, None, nexts), (second[1], (second,), None, None, nexts)])
        told = Play({"us": Routine((("repeat", (("tell", "p", 1),)),)), "x": listener()}, "us")
        own = first_world(told)[0]
        self.check(told, [(own, tuple(sorted(worlds(told))), None, None, {("told", "p"): 0})])

    def test_states_with_more_worlds_than_can_be(self):
        plan = changed(PLAN, 5, 1, (ENDED,)) + [(HOME_STAND, (), None, None, {})]
        self.check(EXAMPLE, plan)
        bigger = Play({"foe": Routine((("open", ((), ())), ("tell", "p", 1))), "us": Routine((("hear", "p", "a"),))},
            "us")
        word, plan = written(bigger, "safe")
        self.assertEqual(word, "plan")
        self.check(bigger, plan)

    def test_40_states_and_41(self):
        for many in (39, 40):
            play = counted(many)
            plan = written(play, "safe")[1]
            self.assertEqual(len(plan), many + 1)
            if many == 39:
                routine = self.check(play, plan)
                self.assertLess(len(routine.paths()), 6000)
            else:
                self.assertEqual(caught(TooMany, as_routine, play, plan), 40)
        self.assertIsNotNone(as_routine(EXAMPLE, PLAN + [EMPTY] * 34))
        self.assertEqual(caught(TooMany, as_routine, EXAMPLE, PLAN + [EMPTY] * 35), 40)
        self.assertEqual(caught(TooMany, as_routine, EXAMPLE, PLAN + [EMPTY] * 1994), 40)

    def test_40_states_that_hear_at_four_ports(self):
        # A long plan: in each of its states any of four ports may bring digits.
        rows = tuple((port, "a", ()) for port in "abcd")
        tells = tuple((("open", tuple((("tell", port, digit),) for digit in (0, 3, 7, 9))),) for port in "abcd")
        play = Play({"foe": Routine((("repeat", (("open", tells),)),)),
                     "us": Routine((("repeat", (("wait", rows),)),))}, "us")
        plan = written(play, "safe")[1]
        self.assertLessEqual(len(plan), 5)
        more = [state for _ in range(8) for state in plan][:40]
        numbered = []
        for index, (stand, some, left, pick, nexts) in enumerate(more):
            # One copy behind the other, each with the same states.
            base = (index // len(plan) + 1) % (len(more) // len(plan)) * len(plan)
            numbered.append((stand, some, left, pick, {noted: base + number for noted, number in nexts.items()}))
        self.assertIsNone(plan_fault(play, "safe", numbered))
        self.check(play, numbered)


class PlanErrors(unittest.TestCase):
    def test_bad_plan(self):
        wrong = wrong_values() + [
            tuple(PLAN), PLAN[1:], PLAN[:5], changed(PLAN, 0, 2, 2), changed(example_plan(2), 0, 2, 3), PLAN[0],
            PLAN * 400,
            changed(example_plan(2), 0, 2, 1), example_plan(2)[:5], changed(PLAN, 5, 1, (FAILED,)), [EMPTY], [[]],
            changed(example_plan(3), 0, 2, True), changed(PLAN, 0, 2, "safe"), changed(PLAN, 0, 2, "going"),
            [PLAN[0][:4]] + PLAN[1:], [PLAN[0][:3]] + PLAN[1:], [list(PLAN[0])] + PLAN[1:],
            changed(example_plan(3), 0, 2, 41), changed(example_plan(3), 0, 2, -1),
        ]
        for plan in wrong:
            self.assertIs(caught(BadPlan, as_routine, EXAMPLE, plan), plan)
        for value in wrong_values():
            if value is not None:
                plan = changed(PLAN, 0, 2, value)
                self.assertIs(caught(BadPlan, as_routine, EXAMPLE, plan), plan)
        self.assertIsNone(caught(BadPlan, as_routine, play=EXAMPLE, plan=None))

    def test_it_need_not_hold_for_going(self):
        play = Play({"foe": Routine(()), "us": Routine((("tell", "p", 1),))}, "us")
        plan = written(play, "safe")[1]
        self.assertEqual(plan_fault(play, "going", plan)[0], "lost")
        self.assertEqual(begun(as_routine(play, plan))[0], "at")

    def test_overheard(self):
        for over in (("p",), ("a", "q"), ("x",)):
            play = example_play(over)
            plan = written(play, "safe")[1]
            self.assertEqual(caught(Overheard, as_routine, play, plan), over)

    def test_400_worlds_and_401(self):
        # Whatever follows, where state 0 names an aim, the worlds are counted first.
        for plan in (PLAN, example_plan(3), [EMPTY] * 2001, [EMPTY, None], [(None, None, 40, None, None)],
                     [(None, None, None, None, None)], [(None, None, 0, None, None)]):
            self.assertEqual(caught(TooMany, as_routine, counted(400), plan), 400)
            self.assertIs(caught(BadPlan, as_routine, counted(399), plan), plan)
        for plan in ([], None, [None], tuple(PLAN), {}, [(None, None, 41, None, None)],
            [(None, None, True, None, None)],
                     [(None, None, "safe", None, None)], [(None, None, -1, None, None)], [(None,) * 4], [(None,) * 6],
                     [[None] * 5]):
            self.assertIs(caught(BadPlan, as_routine, counted(400), plan), plan)

    def test_order(self):
        over = example_play(("p",))
        bad = PLAN[1:] + [EMPTY] * 40
        self.assertIs(caught(BadPlan, as_routine, over, bad), bad)
        self.assertEqual(caught(Overheard, as_routine, over, PLAN + [EMPTY] * 40), ("p",))
        self.assertEqual(caught(TooMany, as_routine, counted(400).with_over(("p",)), PLAN), 400)

    def test_asked_again(self):
        first = as_routine(EXAMPLE, PLAN)
        caught(BadPlan, as_routine, EXAMPLE, None)
        caught(TooMany, as_routine, EXAMPLE, PLAN + [EMPTY] * 40)
        self.assertEqual(as_routine(EXAMPLE, PLAN), first)
        self.assertEqual(EXAMPLE, example_play())


# "one" must tell the digit that "other" picks; which one that is matters nothing then.
ONE = Routine((("hear", "p", "a"), ("open", ((("tell", "q", 3),), (("tell", "q", ("name", "a")),)))))
OTHER = Routine((PICK_X, ("tell", "p", X), ("hear", "q", "y"), SAME))


def pair(over=()):
    return Play({"one": ONE, "other": OTHER}, "other", over)


class InTurn(Checked):
    def test_no_names(self):
        for over in ((), ("p",)):
            for aim in ("safe", "going", 0, 40):
                word, play = in_turn(pair(over), [], aim)
                self.assertEqual([word, play], ["done", pair(over)])

    def test_one_name(self):
        for over in ((), ("p", "x")):
            for aim in ("safe", "going", 2):
                word, play = in_turn(pair(over), ["one"], aim)
                self.assertEqual([word, play.own, play.over], ["done", "other", over])
                self.assertEqual(play.routines["other"], OTHER)
                self.assertEqual(play.routines["one"].open_lines(), [])
                turn = Play(pair().routines, "one")
                self.assertEqual(begun(play.routines["one"])[0], "at")
                self.assertEqual(written(Play(play.routines, "one"), aim)[0], "plan")
                self.assertEqual(written(turn, aim)[0], "plan")

    def test_all_names(self):
        word, play = in_turn(pair(("p",)), ["one", "other"], "safe")
        self.assertEqual([word, play.own, play.over], ["done", "other", ("p",)])
        for routine in play.routines.values():
            self.assertEqual(routine.open_lines(), [])
        for own in ("one", "other"):
            self.assertEqual(written(Play(play.routines, own), 2)[0], "plan")

    def test_the_order_of_the_names_matters(self):
        # "other" alone cannot foresee that "one" will tell what it heard.
        for aim in ("safe", "going", 2):
            for names in (["other", "one"], ["other"]):
                word, name, turn, knot = in_turn(pair(("p",)), names, aim)
                self.assertEqual([word, name, turn], ["knot", "other", pair()])
                self.assertIsNone(knot_fault(turn, aim, knot))
            self.assertEqual(in_turn(pair(("p",)), ["one", "other"], aim)[0], "done")

    def test_a_knot_behind_some_that_are_done(self):
        line = Routine((("open", ((("fail",),), ())),))
        done = Routine((("open", ((),)),))
        play = Play({"deaf": Routine((("hear", "z", "a"),)), "line": line, "more": done}, "more", ("q",))
        for aim in ("going", 0, 40):
            word, name, turn, knot = in_turn(play, ["line", "deaf", "more"], aim)
            self.assertEqual([word, name, turn.own, turn.over], ["knot", "deaf", "deaf", ()])
            self.assertEqual([turn.routines["deaf"], turn.routines["more"]], [play.routines["deaf"], done])
            self.assertEqual(turn.routines["line"].open_lines(), [])
            self.assertIsNone(knot_fault(turn, aim, knot))
            word, name, turn, knot = in_turn(play, ["deaf", "line"], aim)
            self.assertEqual([word, name, turn], ["knot", "deaf", Play(play.routines, "deaf")])
            self.assertIsNone(knot_fault(turn, aim, knot))
        word, behind = in_turn(play, ["more", "line"], "going")[:2]
        self.assertEqual([word, behind], ["knot", "more"])

    def test_nothing_is_overheard(self):
        # With "r" overheard there would be a plan for "us".
        foe = (PICK_X, ("tell", "r", X), ("tell", "p", 0), ("hear", "q", "y"), SAME)
        routines = {"foe": Routine(foe), "us": Routine((("hear", "p", "a"), TELLING)),
            "x": Routine((("hear", "r", "z"),))}
        play = Play(routines, "us", ("r",))
        self.assertEqual(written(play, "safe")[0], "plan")
        word, name, turn, _ = in_turn(play, ["us"], "safe")
        self.assertEqual([word, name, turn], ["knot", "us", play.with_over(())])

    def test_by_name(self):
        self.assertEqual(in_turn(play=pair(), names=["one"], aim=2), in_turn(pair(), ["one"], 2))
        self.assertEqual(in_turn(aim=2, names=[], play=pair()), ("done", pair()))

    def test_bad_names(self):
        wrong = wrong_values() + [
            ("one",), ("one", "other"), (), ["one", "one"], ["one", "other", "one"], ["two"], ["one", "two"], "one",
            None,
            ["One"], [["one"]], [("one",)], {"one": 1}, [None], ["one", None], [True], ["other", 0], ["p"], [ONE], [""],
            ["other", "other"],
        ]
        for names in wrong:
            if names != []:
                for aim in ("safe", 40, None, True):
                    self.assertIs(caught(BadNames, in_turn, pair(), names, aim), names)
        for value in wrong_values():
            for names in ([value], ["one", value], ["one", "other", value]):
                self.assertIs(caught(BadNames, in_turn, pair(), names, 1), names)
        self.assertIsNone(caught(BadNames, in_turn, play=pair(), names=None, aim=1))

    def test_bad_aim(self):
        for aim in wrong_aims():
            for names in ([], ["one"], ["other", "one"]):
                self.assertIs(caught(BadAim, in_turn, pair(), names, aim), aim)
        self.assertIs(caught(BadAim, in_turn, counted(400), ["us"], True), True)

    def test_too_many(self):
        for aim in ("safe", 40):
            self.assertEqual(caught(TooMany, in_turn, counted(400), ["us"], aim), 400)
            self.assertEqual(in_turn(counted(400), [], aim)[0], "done")
        self.assertEqual(caught(TooMany, in_turn, counted(40), ["us"], "safe"), 40)
        self.assertEqual(in_turn(counted(39), ["us"], "safe")[0], "done")
        bells = {"bell": Routine((("repeat", (("tell", "p", 0),)),)), "us": Routine((("repeat", (("hear", "p", "x"),)),
            ))}
        self.assertEqual(in_turn(Play(bells, "bell"), ["us", "bell"], "going")[0], "done")

    def test_what_was_passed_stays_as_it_was(self):
        play, names = pair(("p",)), ["one", "other"]
        first = in_turn(play, names, "safe")
        self.assertEqual([play, names], [pair(("p",)), ["one", "other"]])
        names.append("one")
        self.assertIs(caught(BadNames, in_turn, play, names, "safe"), names)
        self.assertEqual(in_turn(play, names[:2], "safe"), first)
        word, name, turn, knot = in_turn(play, ["other"], 2)
        before = copy.deepcopy(knot)
        knot.clear()
        self.assertEqual(in_turn(play, ["other"], 2), (word, name, turn, before))


if __name__ == "__main__":
    unittest.main()
