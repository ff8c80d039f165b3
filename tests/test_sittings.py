"""[31]: sittings, with a plan and without."""

import copy
import random
import unittest

from makers import rounds
from onlyheard import sittings as module
from onlyheard.errors import BadFact, BadPlan, BadRun, NoMove, TooMany
from onlyheard.knowing import knows, knows_fault
from onlyheard.notices import may_be, noticed
from onlyheard.plays import Play
from onlyheard.routines import Routine
from onlyheard.sittings import Sitting, tried
from onlyheard.worlds import behind, first_world, led, moves, worlds
from onlyheard.writing import written
from planned import (
    EXAMPLE, FAILED, FIRST, GOOD_2, HEARD_2, PICKED_2, changed, example_plan,
)
from samples import (
    ENDLESS, HOME_STAND, caught, counted, counter, endless_play, example_play, four_play, listener, nested,
    wrong_values,
)

PLAN = example_plan()
RUN = [("pick", "foe", 1), ("tell", "foe", "us", "p"), ("pick", "us", 1), ("tell", "us", "foe", "q")]
NOTICES = [None, ("heard", "p", 2), ("pick", 1), ("told", "q")]
OTHER_PICK = ("pick", "us", 0)
WRONG_MOVES = [
    ("pick", "foe", 2), ("pick", "us", 0), ("pick", "foe", True), ("pick", "foe", False), ["pick", "foe", 1], RUN[1],
    ("pick", "foe"), ("pick", "foe", 1, 1), None, (), "pick", ("tell", "foe", "us", "q"),
]


def told(sitting):
    """All that a sitting tells."""
    return [sitting.play, sitting.world, sitting.run, sitting.row, len(sitting), sitting.moves()]


class Told(unittest.TestCase):
    def check(self, sitting, run, plan=False):
        """What it tells behind a run."""
        world = led(sitting.play, run)[-1]
        self.assertEqual([sitting.world, sitting.run, sitting.row], [world, run, noticed(sitting.play, run)])
        self.assertEqual(len(sitting), len(run))
        if not plan:
            self.assertEqual(sitting.moves(), moves(sitting.play, world))


class Steps(Told):
    def test_step_by_step_and_back(self):
        sitting = Sitting(EXAMPLE)
        self.assertIs(sitting.play, EXAMPLE)
        for index, move in enumerate(RUN):
            self.check(sitting, RUN[:index])
            self.assertEqual(sitting.do(move), NOTICES[index])
        self.check(sitting, RUN)
        self.assertEqual([sitting.world, sitting.moves()], [(HOME_STAND, HOME_STAND), []])
        for index in range(3, -1, -1):
            self.assertIs(sitting.back(), True)
            self.check(sitting, RUN[:index])
        for _ in range(3):
            self.assertIs(sitting.back(), False)
            self.check(sitting, [])
        sitting.do(("pick", "foe", 0))
        self.check(sitting, [("pick", "foe", 0)])

    def test_with_a_plan_only_the_told_pick_can_be_done(self):
        for plan in [PLAN] + [example_plan(left) for left in (2, 3, 40)]:
            sitting = Sitting(EXAMPLE, plan)
            for index, move in enumerate(RUN):
                wanted = moves(EXAMPLE, sitting.world)
                if index == 2:
                    self.assertEqual(wanted, [OTHER_PICK, RUN[2]])
                    self.assertIs(caught(NoMove, sitting.do, OTHER_PICK), OTHER_PICK)
                    self.assertEqual(caught(BadRun, sitting.trial, [OTHER_PICK]), 0)
                    wanted = [RUN[2]]
                self.assertEqual(sitting.moves(), wanted)
                self.assertEqual(sitting.do(move), NOTICES[index])
            self.check(sitting, RUN, plan=True)
            for index in range(3, -1, -1):
                self.assertIs(sitting.back(), True)
                self.check(sitting, RUN[:index], plan=True)
                self.assertEqual(sitting.trial(RUN[index:]), NOTICES[index:])
            self.assertIs(sitting.back(), False)
            sitting.do(("pick", "foe", 0))
            sitting.do(RUN[1])
            self.assertEqual(sitting.moves(), [OTHER_PICK])
            self.assertEqual(sitting.do(OTHER_PICK), ("pick", 0))

    def test_a_plan_where_nothing_is_overheard_or_all_is(self):
        for over in ((), ("p",), ("p", "q"), ("x",)):
            sitting = Sitting(example_play(over), PLAN)
            self.assertEqual(sitting.trial(RUN), NOTICES)
        foe = (("open", ((("tell", "r", 1),), (("tell", "r", 2),))), ("tell", "p", 0))
        line = ("open", ((), (("tell", "q", 1),)))
        play = Play({"foe": Routine(foe), "us": Routine((("hear", "p", "a"), line)),
            "x": Routine((("hear", "r", "z"),))},
                    "us", ("r",))
        sitting = Sitting(play, written(play, 1)[1])
        run = [("pick", "foe", 1), ("tell", "foe", "x", "r"), ("tell", "foe", "us", "p"), ("pick", "us", 0)]
        self.assertEqual([sitting.do(move) for move in run], [None, ("over", "r", 2), ("heard", "p", 0), ("pick", 0)])
        self.assertEqual(sitting.row, [("over", "r", 2), ("heard", "p", 0), ("pick", 0)])

    def test_by_name(self):
        sitting = Sitting(play=EXAMPLE, plan=PLAN)
        self.assertEqual(sitting.do(move=RUN[0]), None)
        self.assertEqual(sitting.trial(run=RUN[1:]), NOTICES[1:])
        self.assertEqual(tried(sitting=sitting, run=RUN[1:])[0], NOTICES[1:])
        self.assertEqual(sitting.knows(fact=("home", "us")), ("never",))
        self.assertEqual(told(Sitting(plan=None, play=EXAMPLE)), told(Sitting(EXAMPLE)))
        self.assertEqual([Sitting.__module__, tried.__module__], ["onlyheard.sittings"] * 2)
        self.assertIs(module.Sitting, Sitting)

    def test_methods_stand_in_the_class(self):
        for name in ("moves", "do", "back", "may_be", "knows", "trial", "__iadd__", "__len__", "__contains__",
            "__enter__",
                     "__exit__", "__init__"):
            self.assertIn(name, vars(Sitting))

    def test_wrong_moves(self):
        for sitting in (Sitting(EXAMPLE), Sitting(EXAMPLE, PLAN)):
            before = told(sitting)
            for move in WRONG_MOVES + wrong_values():
                self.assertIs(caught(NoMove, sitting.do, move), move)
            for value in wrong_values():
                for move in (("pick", "foe", value), ("pick", value, 1), (value, "foe", 1)):
                    self.assertIs(caught(NoMove, sitting.do, move), move)
            self.assertIsNone(caught(NoMove, sitting.do, move=None))
            self.assertEqual(told(sitting), before)
        ended = Sitting(EXAMPLE)
        ended += RUN
        self.assertIs(caught(NoMove, ended.do, RUN[3]), RUN[3])

    def test_two_sittings_of_one_play(self):
        one, other = Sitting(EXAMPLE), Sitting(EXAMPLE)
        one += RUN
        self.check(other, [])
        other.do(("pick", "foe", 0))
        self.check(one, RUN)
        self.assertNotEqual(one, other)


class Plans(unittest.TestCase):
    def test_bad_plan(self):
        wrong = wrong_values() + [
            tuple(PLAN), PLAN[1:], PLAN[:5], changed(PLAN, 0, 2, 2), changed(example_plan(2), 0, 2, 3), PLAN * 400,
            changed(PLAN, 5, 1, (FAILED,)), changed(example_plan(3), 0, 2, True), changed(PLAN, 0, 2, "safe"),
            changed(example_plan(3), 0, 2, 41), [PLAN[0][:4]] + PLAN[1:], Sitting(EXAMPLE), Sitting(EXAMPLE, PLAN),
        ]
        for plan in wrong:
            if plan is not None:
                self.assertIs(caught(BadPlan, Sitting, EXAMPLE, plan), plan)
        self.assertEqual(caught(BadPlan, Sitting, play=EXAMPLE, plan=[]), [])

    def test_400_worlds_and_401(self):
        for play in (counted(400), counted(399)):
            self.assertEqual(len(Sitting(play).moves()), 1)
            self.assertEqual(caught(BadPlan, Sitting, play, []), [])
            self.assertIs(caught(BadPlan, Sitting, play, True), True)
        for plan in (PLAN, example_plan(3), [(None, None, 0, None, None)]):
            self.assertEqual(caught(TooMany, Sitting, counted(400), plan), 400)
            self.assertIs(caught(BadPlan, Sitting, counted(399), plan), plan)
        self.assertEqual(len(Sitting(counted(399), written(counted(399), "safe")[1]).run), 0)

    def test_more_than_40_states_and_what_is_overheard(self):
        play = counted(399).with_over(("p", "x"))
        sitting = Sitting(play, written(play, "safe")[1])
        sitting += [("tell", "teller", "us", "p")] * 399
        self.assertEqual(sitting.moves(), [])

    def test_changing_the_plan_later_changes_nothing(self):
        plan = example_plan()
        sitting = Sitting(EXAMPLE, plan)
        before = copy.deepcopy(plan)
        self.assertEqual(plan, before)
        for state in plan:
            state[4].clear()
        plan.clear()
        self.assertEqual(sitting.trial(RUN), NOTICES)
        sitting += RUN[:2]
        self.assertEqual(sitting.moves(), [RUN[2]])

    def test_one_by_one_from_the_first_notice_on(self):
        play = counted(30)
        sitting = Sitting(play, written(play, "safe")[1])
        move = ("tell", "teller", "us", "p")
        for many in range(30):
            self.assertEqual(sitting.trial([move]), [("heard", "p", many % 10)])
            self.assertEqual(sitting.do(move), ("heard", "p", many % 10))
            self.assertIs(sitting.back(), True)
            sitting += [move]
        self.assertEqual(sitting.moves(), [])

    def test_needless_keys_and_states(self):
        plan = changed(PLAN, 0, 4, {**PLAN[0][4], ("told", "q"): 6, None: 6}) + [(FIRST[1], (), None, None, {})]
        sitting = Sitting(EXAMPLE, plan)
        self.assertEqual(sitting.trial(RUN), NOTICES)
        keys = [None, 1, "pick", (), (True,), ("heard", "p", 2, 1), nested("a", lambda key: (key,), 80), sitting,
            ("pick", sitting)]
        for index in range(6):
            plan = changed(PLAN, index, 4, {**{key: 0 for key in keys}, **PLAN[index][4]})
            self.assertEqual(Sitting(EXAMPLE, plan).trial(RUN), NOTICES)

    def test_keys_are_looked_up_as_python_looks_them_up(self):
        for index, key, value in ((1, ("pick", False), 3), (2, ("pick", True), 4)):
            sitting = Sitting(EXAMPLE, changed(PLAN, index, 4, {key: value}))
            self.assertEqual(sitting.trial(RUN), NOTICES)
            one = [("pick", "foe", 0), RUN[1], OTHER_PICK, RUN[3]]
            self.assertEqual(sitting.trial(one), [None, ("heard", "p", 1), ("pick", 0), ("told", "q")])


class Knows(Told):
    def test_may_be_and_knows(self):
        sitting = Sitting(EXAMPLE)
        facts = [("value", "foe", "x", 2), ("home", "foe"), ("stands", "us", (1,)), ("value", "us", "a", 2)]
        for move in RUN + [None]:
            row = sitting.row
            self.assertEqual(sitting.may_be(), may_be(EXAMPLE, row))
            for fact in facts:
                self.assertIsNone(knows_fault(EXAMPLE, row, fact, sitting.knows(fact)))
                self.assertEqual(sitting.knows(fact), knows(EXAMPLE, row, fact))
                self.assertIs(fact in sitting, sitting.world in [
                    world for world in worlds(EXAMPLE) if self.is_so(world, fact)])
            if move is not None:
                sitting.do(move)

    def is_so(self, world, fact):
        stand = world[["foe", "us"].index(fact[1])]
        if fact[0] == "home":
            return stand == HOME_STAND
        names = {"foe": ["x", "y"], "us": ["a"]}[fact[1]]
        if stand[0] != "at" or fact[0] == "stands":
            return stand[1:2] == fact[2:]
        return stand[2][names.index(fact[2])] == fact[3]

    def test_what_is_returned_may_be_changed(self):
        sitting = Sitting(EXAMPLE, PLAN)
        sitting += RUN[:2]
        before = told(sitting)
        for _ in range(2):
            for found in (sitting.run, sitting.row, sitting.moves(), sitting.may_be(), sitting.trial(RUN[2:])):
                found.append(None)
                found.clear()
            self.assertEqual(told(sitting), before)
            self.assertEqual(sitting.may_be(), [HEARD_2])
        silent = Sitting(EXAMPLE)
        for _ in range(2):
            answer = silent.knows(("value", "foe", "x", 2))
            self.assertEqual(answer, ("both", [RUN[0]], []))
            answer[1].clear()

    def test_long_rows(self):
        for many in (60, 61, 399):
            play = counted(399)
            sitting = Sitting(play)
            sitting += [("tell", "teller", "us", "p")] * many
            self.assertEqual(len(sitting.row), many)
            self.assertEqual(sitting.may_be(), [sitting.world])
            self.assertEqual(sitting.knows(("value", "teller", "d", 0)), (("always",) if many == 60 else ("never",)))
            self.assertEqual(sitting.knows(("home", "teller")), ("always",) if many == 399 else ("never",))

    def test_long_rows_where_it_does_not_know(self):
        bell = Routine((("repeat", (("open", ((("tell", "q", 1),), (("tell", "p", 1),))),)),))
        play = Play({"bell": bell, "teller": counter(12), "us": Routine((("repeat", (("hear", "q", "a"),)),)),
                     "x": listener()}, "us")
        ring = [("pick", "bell", 0), ("tell", "bell", "us", "q")]
        for many in (60, 61, 200):
            sitting = Sitting(play)
            sitting += ring * many
            self.assertEqual(len(sitting.row), many)
            fact = ("home", "teller")
            answer = sitting.knows(fact)
            self.assertEqual(answer[0], "both")
            for run, wanted in zip(answer[1:], (True, False)):
                self.assertEqual(noticed(play, run), sitting.row)
                other = Sitting(play)
                other += run
                self.assertIs(fact in other, wanted)
                self.assertIn(other.world, sitting.may_be())
            self.assertEqual(sitting.may_be(), sorted(set(sitting.may_be())))
            if many == 60:
                self.assertEqual(sitting.may_be(), may_be(play, sitting.row))

    def test_bad_fact(self):
        sitting = Sitting(EXAMPLE)
        for fact in wrong_values() + [("home", "no"), ("value", "foe", "x", 10), ("value", "foe", "x", True), ("home",),
                                      ("stands", "foe", (3,)), ("stands", "us", (1, False, 0)), ["home", "us"]]:
            self.assertIs(caught(BadFact, sitting.knows, fact), fact)
            self.assertIs(fact in sitting, False)
        self.assertIsNone(caught(BadFact, sitting.knows, fact=None))
        self.assertEqual(told(sitting), told(Sitting(EXAMPLE)))

    def test_wrong_values_within_facts(self):
        sitting = Sitting(EXAMPLE)
        for value in wrong_values():
            for fact in (("value", "foe", "x", value), ("value", "foe", value, 0), ("value", value, "x", 0),
                (value, "us"),
                         ("stands", "foe", value), ("stands", "foe", (value,)), ("home", value),
                         (value, "foe", "x", 0)):
                if value != "home":
                    self.assertIs(caught(BadFact, sitting.knows, fact), fact)
                    self.assertIs(fact in sitting, False)

    def test_too_many(self):
        sitting = Sitting(counted(400))
        sitting += [("tell", "teller", "us", "p")] * 400
        self.assertEqual(caught(TooMany, sitting.may_be), 400)
        self.assertEqual(caught(TooMany, sitting.knows, ("home", "us")), 400)
        self.assertIsNone(caught(BadFact, sitting.knows, None))
        self.assertIn(("home", "teller"), sitting)
        self.assertNotIn(("home", "us"), sitting)

    def test_facts_that_are_so(self):
        sitting = Sitting(EXAMPLE)
        for fact, wanted in (
            (("home", "us"), False), (("stands", "us", (0,)), True), (("value", "us", "a", 0), True),
            (("value", "us", "a", 1), False), (("stands", "foe", (1,)), False), (("value", "foe", "x", 2), False),
        ):
            self.assertIs(fact in sitting, wanted)
        sitting += RUN
        for fact, wanted in ((("home", "us"), True), (("value", "us", "a", 0), False), (("stands", "us", (0,)), False)):
            self.assertIs(fact in sitting, wanted)


class Trials(Told):
    def test_trial_changes_nothing(self):
        for plan in (None, PLAN):
            sitting = Sitting(EXAMPLE, plan)
            for index in range(5):
                before = told(sitting)
                for many in range(5 - index):
                    self.assertEqual(sitting.trial(RUN[index:index + many]), NOTICES[index:index + many])
                    self.assertEqual(told(sitting), before)
                if index < 4:
                    sitting.do(RUN[index])

    def test_bad_run(self):
        for plan in (None, PLAN):
            sitting = Sitting(EXAMPLE, plan)
            sitting.do(RUN[0])
            before = told(sitting)
            for run in wrong_values() + [tuple(RUN), RUN[1], "", {}, [None] * 30001, RUN * 10000]:
                if run == []:
                    continue
                index = 0 if isinstance(run, list) and len(run) <= 30000 else -1
                for call in (sitting.trial, sitting.__iadd__):
                    self.assertEqual(repr(caught(BadRun, call, run)), repr(index))
                if index == -1:
                    self.assertEqual(caught(BadRun, tried, sitting, run), -1)
            for move in WRONG_MOVES[:1] + WRONG_MOVES[2:5] + WRONG_MOVES[6:] + [RUN[1], OTHER_PICK,
                    ("pick", "us", True)]:
                for ahead in range(4):
                    run = RUN[1:1 + ahead] + [move, None]
                    if ahead == 0 and move == RUN[1] or plan is None and ahead == 1 and move == OTHER_PICK:
                        continue
                    self.assertEqual(caught(BadRun, sitting.trial, run), ahead)
                    self.assertEqual(caught(BadRun, sitting.__iadd__, run), ahead)
            self.assertEqual(told(sitting), before)
        self.assertEqual(caught(BadRun, Sitting(EXAMPLE).trial, run=None), -1)

    def test_iadd_does_all_and_stays_the_same_object(self):
        for plan in (None, PLAN):
            sitting = Sitting(EXAMPLE, plan)
            same = sitting
            for index in range(0, 4, 2):
                sitting += RUN[index:index + 2]
                self.assertIs(sitting, same)
                self.check(sitting, RUN[:index + 2], plan=plan is not None)
            sitting += []
            self.check(same, RUN, plan=plan is not None)

    def test_iadd_does_none_if_one_cannot_be_done(self):
        sitting = Sitting(EXAMPLE)
        same = sitting
        for run, wanted in ((RUN + [RUN[0]], 4), (RUN[:2] + RUN[:1], 2), (None, -1), (tuple(RUN), -1)):
            with self.assertRaises(BadRun) as error:
                sitting += run
            self.assertEqual(error.exception.what, wanted)
            self.assertIs(sitting, same)
            self.check(sitting, [])

    def test_a_list_that_is_passed_stays_as_it_was(self):
        run = list(RUN)
        sitting = Sitting(EXAMPLE)
        sitting.trial(run)
        tried(sitting, run)
        sitting += run
        self.assertEqual(run, RUN)
        run.clear()
        self.check(sitting, RUN)

    def test_long_runs(self):
        run = [ENDLESS] * 30000
        sitting = Sitting(endless_play())
        self.assertEqual(sitting.trial(run), [("heard", "p", 1)] * 30000)
        for many in (1, 2):
            sitting += run
            self.assertEqual([len(sitting), len(sitting.row)], [30000 * many] * 2)
        self.assertEqual(caught(BadRun, sitting.trial, run + [ENDLESS]), -1)
        self.assertEqual(caught(BadRun, sitting.trial, run[1:] + [None]), 29999)
        self.assertEqual(len(sitting.may_be()), 1)
        self.assertEqual(sitting.knows(("value", "us", "x", 1)), ("always",))
        self.assertEqual(tried(sitting, run)[0], [("heard", "p", 1)] * 30000)
        with sitting:
            for _ in range(100):
                sitting.back()
        self.assertEqual(len(sitting), 60000)
        while sitting.back():
            pass
        self.assertEqual([len(sitting), sitting.world], [0, first_world(endless_play())])

    def test_long_runs_of_a_plan(self):
        play = endless_play()
        sitting = Sitting(play, written(play, "safe")[1])
        sitting += [ENDLESS] * 30000
        self.assertEqual(sitting.moves(), [ENDLESS])


class Blocks(Told):
    def test_at_the_end_it_is_as_it_was(self):
        for plan in (None, PLAN):
            for index in range(5):
                sitting = Sitting(EXAMPLE, plan)
                sitting += RUN[:index]
                before = told(sitting)
                with sitting as same:
                    self.assertIs(same, sitting)
                    same += RUN[index:]
                    self.assertEqual(sitting.run, RUN)
                self.assertEqual(told(sitting), before)
                with sitting as same:
                    while same.back():
                        pass
                    same.do(("pick", "foe", 0))
                self.assertEqual(told(sitting), before)
                with sitting:
                    pass
                self.assertEqual(told(sitting), before)
                sitting += RUN[index:]
                self.check(sitting, RUN, plan=True)

    def test_blocks_within_one_another(self):
        sitting = Sitting(EXAMPLE, PLAN)
        sitting.do(RUN[0])
        with sitting:
            sitting.do(RUN[1])
            with sitting as inner:
                inner += RUN[2:]
                with inner:
                    sitting.back()
                    sitting.back()
                    sitting.back()
                    self.assertEqual(sitting.run, RUN[:1])
                self.assertEqual(sitting.run, RUN)
            self.assertEqual(sitting.run, RUN[:2])
            with sitting:
                sitting.do(RUN[2])
            self.assertEqual([sitting.run, sitting.world], [RUN[:2], HEARD_2])
            sitting.do(RUN[2])
            self.assertEqual(sitting.world, GOOD_2)
        self.assertEqual([sitting.run, sitting.world], [RUN[:1], PICKED_2])
        self.assertEqual(sitting.trial(RUN[1:]), NOTICES[1:])

    def test_left_by_an_error(self):
        sitting = Sitting(EXAMPLE)
        sitting.do(RUN[0])
        before = told(sitting)
        for kind, deed in (
            (NoMove, lambda: sitting.do(None)), (BadRun, lambda: sitting.trial([None])), (KeyError, lambda: {}[1]),
            (BadFact, lambda: sitting.knows(1)),
        ):
            with self.assertRaises(kind):
                with sitting:
                    sitting.do(RUN[1])
                    with sitting:
                        sitting.do(RUN[2])
                        deed()
            self.assertEqual(told(sitting), before)

    def test_left_by_return_and_by_break(self):
        sitting = Sitting(EXAMPLE)

        def early():
            with sitting:
                sitting.do(RUN[0])
                return sitting.run

        self.assertEqual([early(), sitting.run], [RUN[:1], []])
        for move in RUN:
            with sitting:
                sitting.do(move)
                break
        self.check(sitting, [])

    def test_iadd_within_a_block(self):
        sitting = Sitting(EXAMPLE)
        with sitting as same:
            same += RUN[:2]
            self.assertIs(same, sitting)
            with self.assertRaises(BadRun):
                same += RUN
        self.check(sitting, [])


class Tried(Told):
    def test_tried(self):
        for plan in (None, PLAN):
            sitting = Sitting(EXAMPLE, plan)
            for index in range(5):
                before = told(sitting)
                for many in range(5 - index):
                    found = tried(sitting, RUN[index:index + many])
                    self.assertEqual(found, (NOTICES[index:index + many], led(EXAMPLE, RUN[:index + many])[-1]))
                    self.assertEqual([type(found), type(found[0])], [tuple, list])
                    self.assertEqual(told(sitting), before)
                if index < 4:
                    sitting.do(RUN[index])

    def test_a_move_that_cannot_be_done(self):
        for plan in (None, PLAN):
            sitting = Sitting(EXAMPLE, plan)
            sitting.do(RUN[0])
            before = told(sitting)
            for ahead in range(4):
                for move in [None, ("pick", "foe", True), RUN[0], (), *wrong_values()]:
                    run = RUN[1:1 + ahead] + [move, 1]
                    self.assertIs(caught(NoMove, tried, sitting, run), move)
            self.assertEqual(told(sitting), before)
        self.assertIs(caught(NoMove, tried, Sitting(EXAMPLE, PLAN), RUN[:2] + [OTHER_PICK]), OTHER_PICK)

    def test_bad_run(self):
        sitting = Sitting(EXAMPLE)
        for run in (None, True, (), tuple(RUN), {}, "", RUN[0], [None] * 30001, sitting, EXAMPLE):
            self.assertEqual(caught(BadRun, tried, sitting, run), -1)
        self.assertEqual(caught(BadRun, tried, sitting=sitting, run=1), -1)
        self.assertIsNone(caught(NoMove, tried, sitting, [None] * 30000))

    def test_within_a_block(self):
        sitting = Sitting(EXAMPLE)
        with sitting:
            sitting += RUN[:2]
            self.assertEqual(tried(sitting, RUN[2:])[0], NOTICES[2:])
            self.check(sitting, RUN[:2])
        self.check(sitting, [])


class AtRandom(Told):
    def test_deeds_at_random(self):
        dice = random.Random(9)
        for blocks, own, over in rounds(40, 17):
            play = Play({name: Routine(block) for name, block in blocks.items()}, own, over)
            try:
                word, plan = written(play, "safe")
            except TooMany:
                continue
            for chosen in [None] + [plan] * (word == "plan"):
                self.deeds(play, chosen, dice)

    def deeds(self, play, plan, dice):
        sitting, run = Sitting(play, plan), []
        for _ in range(25):
            found = sitting.moves()
            everything = moves(play, sitting.world)
            self.assertEqual([move for move in everything if move in found], found)
            if plan is None:
                self.assertEqual(found, everything)
            else:
                barred = [move for move in everything if move not in found]
                self.assertTrue(all(move[:2] == ("pick", play.own) for move in barred))
                self.assertLessEqual(sum(move[:2] == ("pick", play.own) for move in found), 1)
                self.assertFalse(any(stand[0] == "fail" for stand in sitting.world))
            if found and dice.random() < 0.8:
                move = dice.choice(found)
                after = behind(play, sitting.world, move)
                sitting.do(move)
                run.append(move)
                self.assertEqual(sitting.world, after)
            elif dice.random() < 0.5:
                self.assertIs(sitting.back(), bool(run))
                run = run[:-1]
            self.check(sitting, run, plan=True)
        self.assertEqual(sitting.may_be(), may_be(play, sitting.row))


class FourRoutines(Told):
    def test_four_routines(self):
        for over in ((), ("p", "q", "s")):
            sitting = Sitting(four_play(over))
            dice = random.Random(1)
            run = []
            while sitting.moves():
                run.append(dice.choice(sitting.moves()))
                sitting.do(run[-1])
                self.check(sitting, run)


if __name__ == "__main__":
    unittest.main()
