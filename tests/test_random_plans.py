"""[19] to [25], [30] at many plays, against the reference; the seeds are fixed."""

import random
import unittest

from aimed import Aimed, Alone, Planned, deals_alike, longest_way
from makers import plays, rounds
from onlyheard.errors import Overheard, TooMany
from onlyheard.knots import knot_fault
from onlyheard.plans import plan_fault
from onlyheard.plays import Play
from onlyheard.rewriting import as_routine, in_turn
from onlyheard.routines import Routine
from onlyheard.writing import written
from reference import Game
from samples import caught


def games(many, seed):
    """Triples (play, blocks, what the reference tells of its worlds) of plays with few worlds."""
    found = []
    for blocks, own, over in plays(many, seed) + rounds(many // 2, seed):
        known = Game(blocks, own, over).walk(100)
        if known is not None:
            found.append((Play({name: Routine(block) for name, block in blocks.items()}, own, over), blocks, known))
    return found


def put(items, index, place, value):
    item = list(items[index])
    item[place] = value
    items[index] = tuple(item)


class Wronger:
    """Makes a plan or a knot wrong, by small changes that keep its form."""

    def __init__(self, seed, aimed):
        self.dice, self.aimed = random.Random(seed), aimed

    def some(self, worlds, fewest):
        """Other worlds."""
        kept = [world for world in worlds if self.dice.random() < 0.7]
        place = self.aimed.place
        near = [world for world in sorted(self.aimed.known) if worlds and world[place] == worlds[0][place]]
        known = near if near and self.dice.random() < 0.7 else sorted(self.aimed.known)
        more = self.dice.sample(known, min(2, len(known)))
        changed = sorted({*kept, *more[:self.dice.randrange(3)]})
        return tuple(changed) if len(changed) >= fewest else worlds

    def left(self, left):
        if left is None:
            return None
        return min(max(left + self.dice.choice([-1, 1]), 0), self.aimed.aim)

    def plan(self, plan):
        plan = [state[:4] + (dict(state[4]),) for state in plan]
        for _ in range(self.dice.choice([0, 1, 1, 2])):
            index = self.dice.randrange(len(plan))
            kind = self.dice.choice(["worlds", "worlds", "left", "pick", "key", "number", "copy", "stand", "empty",
                "bad"])
            stand, some, left, pick, nexts = plan[index]
            if kind == "worlds":
                put(plan, index, 1, self.some(some, 0))
            if kind == "left":
                put(plan, index, 2, self.left(left))
            if kind == "pick" and pick is not None:
                put(plan, index, 3, self.dice.randrange(self.aimed.choices(stand)))
                if self.dice.random() < 0.5:
                    nexts[("pick", plan[index][3])] = self.dice.randrange(len(plan))
            if kind == "key" and nexts:
                del nexts[self.dice.choice(sorted(nexts))]
            if kind == "number" and nexts:
                nexts[self.dice.choice(sorted(nexts))] = self.dice.randrange(len(plan))
            if kind == "copy":
                plan.append(self.dice.choice(plan)[:4] + (dict(nexts),))
                self.fit(plan, len(plan) - 1)
            if kind == "empty":
                plan.append((stand, (), None if left is None else 0, pick, {}))
            if kind == "bad":
                self.add_bad(plan)
            if kind == "stand":
                put(plan, index, 0, self.dice.choice(plan)[0])
                self.fit(plan, index)
        return plan

    def add_bad(self, plan):
        """Puts bad worlds into the states where the own routine stands so."""
        place = self.aimed.place
        bad = [world for world in self.aimed.known if self.aimed.is_bad(world)]
        for index, (stand, some, _, _, _) in enumerate(plan):
            put(plan, index, 1, tuple(sorted({*some, *[world for world in bad if world[place] == stand]})))

    def fit(self, plan, index):
        """Gives a state a pick that its stand can have."""
        many = self.aimed.choices(plan[index][0])
        put(plan, index, 3, self.dice.randrange(many) if many else None)

    def knot(self, knot):
        knot = list(knot)
        for _ in range(self.dice.choice([0, 1, 1, 2])):
            index = self.dice.randrange(len(knot))
            kind = self.dice.choice(["worlds", "left", "why", "part", "copy", "short"])
            some, left, why = knot[index]
            if kind == "worlds":
                put(knot, index, 0, self.some(some, 1))
            if kind == "left":
                put(knot, index, 1, self.left(left))
            if kind == "why":
                put(knot, index, 2, self.dice.choice(knot)[2])
            if kind == "part" and why[0] != "lost":
                number = self.dice.randrange(len(knot))
                behind = tuple(self.dice.choice([part, number]) for part in why[1])
                put(knot, index, 2, ("open", behind) if why[0] == "open" else (*why[:2], number))
            if kind == "short" and why[0] == "open":
                put(knot, index, 2, ("open", why[1][1:]))
            if kind == "copy":
                knot.append(self.dice.choice(knot))
        return knot


class RandomPlans(unittest.TestCase):
    @classmethod
    def setUpClass(cls):
        cls.games = games(500, 41)

    def aimed(self, seed):
        """Each play with several aims, as pairs (play, Aimed)."""
        dice = random.Random(seed)
        for play, blocks, known in self.games:
            for aim in ("safe", "going", dice.randrange(8)):
                yield play, Aimed(blocks, play.own, known, aim)

    def test_written(self):
        words = []
        for play, aimed in self.aimed(1):
            pairs = aimed.pairs(2000)
            if pairs is None:
                self.assertEqual(caught(TooMany, written, play, aimed.aim), 2000)
                continue
            word, found = written(play, aimed.aim)
            words.append((word, aimed.aim if aimed.aim in ("safe", "going") else "number"))
            self.assertEqual(word, "plan" if next(iter(pairs)) not in aimed.lost(pairs) else "knot")
            self.assertTrue(1 <= len(found) <= len(pairs))
            judge, other = (plan_fault, aimed.plan_fault) if word == "plan" else (knot_fault, aimed.knot_fault)
            self.assertIsNone(judge(play, aimed.aim, found))
            self.assertIsNone(other(found))
        self.assertGreater(min(words.count(word) for word in set(words)), 50)
        self.assertEqual(len(set(words)), 6)

    def test_plan_fault(self):
        faults = self.faults(2, "plan")
        self.assertEqual(set(faults), {"none", "start", "own", "lost", "left", "unseen", "noticed"})
        self.assertGreater(min(faults.count(word) for word in set(faults)), 4)

    def test_knot_fault(self):
        faults = self.faults(3, "knot")
        self.assertEqual(set(faults), {"none", "start", "lost", "line", "later", "left", "world"})
        self.assertGreater(min(faults.count(word) for word in set(faults)), 20)

    def faults(self, seed, kind):
        """The words of the faults of many plans or knots, which the reference tells alike."""
        words = []
        judge = plan_fault if kind == "plan" else knot_fault
        for number, (play, aimed) in enumerate(self.aimed(seed)):
            word, found = written(play, aimed.aim)
            wronger = Wronger(number, aimed)
            for _ in range(4 if word == kind else 0):
                wrong = wronger.plan(found) if kind == "plan" else wronger.knot(found)
                wanted = aimed.plan_fault(wrong) if kind == "plan" else aimed.knot_fault(wrong)
                self.assertEqual(repr(judge(play, aimed.aim, wrong)), repr(wanted))
                words.append("none" if wanted is None else wanted[0])
        return words

    def test_as_routine(self):
        many = 0
        for play, aimed in self.aimed(4):
            word, plan = written(play, aimed.aim)
            if word == "knot":
                continue
            if play.over:
                self.assertEqual(caught(Overheard, as_routine, play, plan), play.over)
            elif len(plan) > 40:
                self.assertEqual(caught(TooMany, as_routine, play, plan), 40)
            else:
                many += len(plan) > 5
                self.check_routine(play, aimed, plan)
        self.assertGreater(many, 50)

    def check_routine(self, play, aimed, plan):
        routine = as_routine(play, plan)
        self.assertEqual(routine.open_lines(), [])
        blocks = {name: routine.block for name, routine in play.with_own(routine).routines.items()}
        alone = Game(blocks, play.own).walk(10 ** 5)
        self.assertLessEqual(len(alone), sum(len(state[1]) for state in plan))
        one = Planned({**blocks, play.own: aimed.block}, play.own, aimed.known, plan)
        self.assertTrue(deals_alike(one, Alone(blocks, play.own, alone, None)))
        self.assertLessEqual(longest_way(routine.block, (0, 1, 2)), 4000)

    def test_in_turn(self):
        words = []
        dice = random.Random(5)
        for play, blocks, _ in self.games:
            names = dice.sample(play.names(), dice.randrange(len(play.names()) + 1))
            aim = dice.choice(["safe", "going", 3])
            try:
                found = in_turn(play, names, aim)
            except TooMany as error:
                self.assertIn(error.what, [40, 400, 2000])
                continue
            words.append((found[0], len(names)))
            self.check_turns(play, blocks, names, aim, found)
        self.assertGreater(min(words.count(word) for word in set(words)), 3)

    def check_turns(self, play, blocks, names, aim, found):
        """Whether the names up to the one with a knot are written out, and no others are changed."""
        done = names if found[0] == "done" else names[:names.index(found[1])]
        behind = found[1] if found[0] == "done" else found[2]
        self.assertEqual(behind.names(), play.names())
        for name, routine in behind.routines.items():
            if name in done:
                self.assertEqual(routine.open_lines(), [])
            else:
                self.assertEqual(routine, play.routines[name])
        if found[0] == "done":
            self.assertEqual([behind.own, behind.over], [play.own, play.over])
        else:
            self.assertEqual([behind.own, behind.over], [found[1], ()])
            self.assertIsNone(knot_fault(behind, aim, found[3]))
        if len(done) == 1:
            turn = {name: routine.block for name, routine in behind.routines.items()}
            known = Game({**turn, done[0]: blocks[done[0]]}, done[0]).walk(10 ** 5)
            self.assertTrue(Aimed({**turn, done[0]: blocks[done[0]]}, done[0], known, aim).is_planned())


if __name__ == "__main__":
    unittest.main()
