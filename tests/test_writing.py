"""[24]: plans that hold, or knots that refute."""

import unittest

import reference
from aimed import Aimed
from onlyheard import writing as module
from onlyheard.errors import BadAim, TooMany
from onlyheard.knots import knot_fault
from onlyheard.plans import plan_fault
from onlyheard.plays import Play
from onlyheard.routines import Routine
from onlyheard.worlds import worlds
from onlyheard.writing import written
from planned import EXAMPLE, wrong_aims
from samples import bells, caught, counted, endless_play, example_play, four_play, listener, powers

AIMS = ["safe", "going", 0, 1, 2, 3, 4, 40]
A = ("name", "a")


def tell(port, value):
    return ("tell", port, value)


def line(*blocks):
    return ("open", blocks)


def telling(port, *values):
    """An open line at which one of some digits is told."""
    return line(*[(tell(port, value),) for value in values])


def play(own, over=(), **others):
    return Play({"us": Routine(own), **{name: Routine(block) for name, block in others.items()}}, "us", over)


def same(one, other):
    """Fails unless two names have the same value."""
    return ("if", ("same", ("name", one), ("name", other)), (), (("fail",),))


PICK_X = line((("set", "x", 1),), (("set", "x", 2),))
X = ("name", "x")


class Checked(unittest.TestCase):
    def check(self, one, aim, wanted):
        """Asks for what is written; it is judged, and must not be too long."""
        word, found = written(one, aim)
        self.assertIs(type(found), list)
        if word == "plan":
            self.assertIsNone(plan_fault(one, aim, found))
        else:
            self.assertIsNone(knot_fault(one, aim, found))
        blocks = {name: routine.block for name, routine in one.routines.items()}
        known = reference.Game(blocks, one.own, one.over).walk(400)
        aimed = Aimed(blocks, one.own, known, aim)
        pairs = aimed.pairs()
        self.assertLessEqual(len(found), len(pairs))
        self.assertEqual(word, "plan" if aimed.is_planned() else "knot")
        self.assertEqual(word, wanted, aim)
        return found

    def plans_for(self, one, wanted):
        """There are plans for these aims, and knots for all others."""
        for aim in AIMS:
            self.check(one, aim, "plan" if aim in wanted else "knot")


class Written(Checked):
    def test_what_was_heard(self):
        self.plans_for(EXAMPLE, ["safe", "going", 2, 3, 4, 40])
        plan = self.check(EXAMPLE, 2, "plan")
        self.assertEqual({state[0][2][0]: state[3] for state in plan if state[0][:2] == ("at", (1,))}[2], 1)

    def test_the_least_number_of_dealings_and_one_less(self):
        for many in (1, 2, 5, 9):
            own = (tell("p", 1),) * many
            one = play(own, a=(("hear", "p", "x"),) * many)
            for aim in (many, many + 1, 40):
                self.check(one, aim, "plan")
            self.check(one, many - 1, "knot")
            self.check(play((line(own, own + own[:1]),), a=(("hear", "p", "x"),) * 10), many - 1, "knot")

    def test_the_pick_with_fewer_dealings(self):
        one = play((line((tell("p", 1),) * 3, (tell("p", 1),), (tell("p", 1),) * 2),), a=(("hear", "p", "x"),) * 3)
        self.plans_for(one, ["safe", "going", 1, 2, 3, 4, 40])
        self.assertEqual(self.check(one, 1, "plan")[0][3], 1)

    def test_what_was_overheard(self):
        foe = (PICK_X, tell("r", X), ("hear", "q", "y"), same("x", "y"))
        blocks = {"foe": foe, "third": (("hear", "r", "z"),)}
        # At once it cannot know; it must wait until it is asked, here by a digit that tells nothing.
        self.plans_for(play((telling("q", 1, 2),), ("r",), **blocks), [])
        asking = {"foe": (*foe[:2], tell("p", 0), *foe[2:]), "third": (("hear", "r", "z"),)}
        own = (("hear", "p", "a"), telling("q", 1, 2))
        self.plans_for(play(own, ("r",), **asking), ["safe", "going", 2, 3, 4, 40])
        self.plans_for(play(own, ("p", "q"), **asking), [])
        self.plans_for(play(own, (), **asking), [])

    def test_told_too_late(self):
        # "foe" tells what it picked, but only behind the pick of "us".
        foe = (PICK_X, ("hear", "q", "y"), tell("p", X), same("x", "y"))
        own = (telling("q", 1, 2), ("hear", "p", "a"))
        self.plans_for(play(own, foe=foe), [])
        for over in (("p",), ("p", "q")):
            self.plans_for(play(own, over, foe=foe), [])

    def test_told_nothing(self):
        foe = (PICK_X, ("hear", "q", "y"), same("x", "y"))
        one = play((telling("q", 1, 2),), foe=foe)
        self.plans_for(one, [])
        for aim in AIMS:
            self.assertEqual(written(one, aim)[1][0][2][0], "open")

    def test_both_wait_for_one_another(self):
        own = (line((("hear", "p", "a"), tell("q", 1)), (tell("q", 1), ("hear", "p", "a"))),)
        one = play(own, foe=(("hear", "q", "b"), tell("p", 2)))
        self.plans_for(one, ["safe", "going", 2, 3, 4, 40])
        self.assertEqual(self.check(one, "going", "plan")[0][3], 1)
        self.plans_for(play(own[0][1][0], foe=(("hear", "q", "b"), tell("p", 2))), ["safe"])

    def test_fails_of_the_own_routine_and_of_others(self):
        fail = (("fail",),)
        self.plans_for(play(fail, foe=()), [])
        self.plans_for(play((), foe=fail), [])
        self.plans_for(play((line(fail, ()),), foe=()), AIMS)
        self.plans_for(play((line(fail, fail),), foe=()), [])
        self.plans_for(play((), foe=(line(fail, ()),)), [])
        self.plans_for(play((line(fail, (line(fail, fail, (line(fail, ()),)),), fail),), foe=()), AIMS)

    def test_home_at_once(self):
        self.plans_for(play((), foe=(tell("p", 1),)), AIMS)

    def test_others_may_deal_for_ever(self):
        repeat = ("repeat", (tell("p", 1),))
        one = play((("hear", "q", "a"),), foe=(repeat,), x=listener().block)
        self.plans_for(one, ["safe", "going", 1, 2, 3, 4, 40])

    def test_for_ever_by_the_own_routine(self):
        self.plans_for(endless_play(), ["safe", "going"])
        for aim in (0, 1, 39, 40):
            knot = self.check(endless_play(), aim, "knot")
            self.assertEqual(len(knot), aim + 1)
            self.assertEqual([part[1] for part in knot], list(range(aim, -1, -1)))

    def test_four_routines(self):
        for over in ((), ("p",), ("q", "s"), ("p", "q", "r", "s")):
            for aim in AIMS:
                found = written(four_play(over), aim)
                self.check(four_play(over), aim, found[0])

    def test_a_plan_that_goes_round(self):
        ask = ("repeat", (("hear", "p", "a"), telling("q", 1, 2)))
        answer = ("repeat", (PICK_X, tell("p", X), ("hear", "q", "y"), same("x", "y")))
        self.plans_for(play((ask,), foe=(answer,)), ["safe", "going"])
        deaf = ("repeat", (PICK_X, tell("p", 0), ("hear", "q", "y"), same("x", "y")))
        self.plans_for(play((ask,), foe=(deaf,)), [])

    def test_a_plan_that_comes_back_to_its_begin(self):
        one = play((("repeat", (line((tell("p", 0),), (("fail",),)),)),), x=listener().block)
        self.plans_for(one, ["safe", "going"])
        self.assertEqual(len(self.check(one, "safe", "plan")), 2)
        both = play((("repeat", (tell("p", 0),)),), x=listener().block)
        self.assertEqual(len(self.check(both, "going", "plan")), 1)

    def test_lines_with_one_block(self):
        fail, home = (line((("fail",),)),), (line(()),)
        for block, wanted in ((fail, []), (home, AIMS), ((line(fail),), []), ((line(home),), AIMS),
                ((line(fail, ()),), AIMS)):
            self.plans_for(play(block, foe=()), wanted)

    def test_it_must_foresee_what_it_will_hear_later(self):
        # The first pick alone decides whether it can answer later on.
        own = (line((("hear", "p", "b"), telling("q", 1, 2)), (("hear", "p", "a"),
            line((tell("q", A),), (("fail",),)))),)
        foe = (PICK_X, tell("p", X), ("hear", "q", "y"), same("x", "y"))
        self.plans_for(play(own, foe=foe), ["safe", "going", 2, 3, 4, 40])
        first = own[0][1][0]
        self.plans_for(play((line(first, (tell("q", 1), *first)),), foe=foe), ["safe", "going", 2, 3, 4, 40])

    def test_long_chains(self):
        one = counted(399)
        self.assertEqual([len(self.check(one, "safe", "plan")), len(self.check(one, "going", "knot"))], [400, 400])
        self.assertEqual(len(self.check(one, 40, "knot")), 41)

    def test_by_name(self):
        self.assertEqual(written(play=EXAMPLE, aim=2)[0], "plan")
        self.assertEqual(written(aim="safe", play=EXAMPLE)[0], "plan")
        self.assertEqual(written.__module__, "onlyheard.writing")
        self.assertIs(module.written, written)

    def test_returns_a_pair(self):
        for aim, word in ((2, "plan"), (1, "knot")):
            found = written(EXAMPLE, aim)
            self.assertIs(type(found), tuple)
            self.assertEqual([len(found), found[0], type(found[1])], [2, word, list])
            for item in found[1]:
                self.assertEqual([type(item), len(item)], [tuple, 5 if word == "plan" else 3])


class Bounds(unittest.TestCase):
    def test_bad_aim(self):
        for aim in wrong_aims():
            self.assertIs(caught(BadAim, written, EXAMPLE, aim), aim)
        self.assertIsNone(caught(BadAim, written, play=EXAMPLE, aim=None))
        self.assertIs(caught(BadAim, written, counted(400), False), False)

    def test_400_worlds_and_401(self):
        for aim in ("safe", "going", 0, 40):
            self.assertEqual(caught(TooMany, written, counted(400), aim), 400)
            self.assertIn(written(counted(399), aim)[0], ["plan", "knot"])

    def test_2000_pairs_and_2001(self):
        for sets, aim in ((50, 39), (100, 19), (200, 9), (250, 7), (400, 4)):
            one = bells(sets)
            self.assertEqual([len(worlds(one)), sets * (aim + 1)], [sets, 2000])
            self.assertEqual(written(one, aim)[0], "knot")
            self.assertEqual(caught(TooMany, written, one, aim + 1), 2000)
        for sets, aim in ((69, 28), (87, 22)):
            self.assertEqual(sets * (aim + 1), 2001)
            self.assertEqual(caught(TooMany, written, bells(sets), aim), 2000)
            self.assertEqual(written(bells(sets - 1), aim)[0], "knot")

    def test_pairs_behind_sets_that_are_lost(self):
        # "bell" may fail ahead of all else, so that every set is lost from the begin on.
        begin = (line((("fail",),), ()),)
        for sets, aim in ((50, 39), (100, 19)):
            one = bells(sets, begin=begin)
            self.assertEqual(written(one, aim)[0], "knot")
            self.assertEqual(len(written(one, aim)[1]), 1)
            self.assertEqual(caught(TooMany, written, one, aim + 1), 2000)
        self.assertEqual(caught(TooMany, written, bells(69, begin=begin), 28), 2000)

    def test_not_behind_rows_with_n_dealings(self):
        # Behind the last dealing it would overhear all the bells, in 1024 sets and more.
        one = powers(11)
        for aim in ("safe", "going", 1, 40):
            self.assertEqual(caught(TooMany, written, one, aim), 2000)
        self.assertEqual(written(one, 0)[0], "knot")
        self.assertEqual(len(written(one, 0)[1]), 1)
        # At an open line and at home it goes on.
        for own in ((line((("hear", "p", "x"),), ()),), ()):
            self.assertEqual(caught(TooMany, written, powers(11, own), 0), 2000)
        self.assertEqual(written(powers(9, ()), 0)[0], "plan")

    def test_many_sets_of_few_worlds(self):
        one = powers(9)
        self.assertLess(len(worlds(one)), 100)
        self.assertGreater(len(written(one, "safe")[1]), 1000)
        self.assertIsNone(plan_fault(one, "safe", written(one, "safe")[1]))


class Again(unittest.TestCase):
    def test_what_is_returned_may_be_changed(self):
        one = example_play()
        first = [written(one, aim) for aim in AIMS]
        for aim, (word, found) in zip(AIMS, first):
            before = repr(found)
            word, more = written(one, aim)
            if word == "plan":
                for state in more:
                    state[4].clear()
            more.clear()
            caught(BadAim, written, one, None)
            self.assertEqual(repr(written(one, aim)[1]), before)
            self.assertEqual(repr(found), before)
        self.assertEqual(one, example_play())


if __name__ == "__main__":
    unittest.main()
