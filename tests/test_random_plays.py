"""[13] to [18] at many plays, against the reference; the seed is fixed."""

import random
import unittest

import reference
from makers import plays
from onlyheard.errors import NoRow, TooMany
from onlyheard.knowing import knows, knows_fault
from onlyheard.notices import may_be, notice, noticed
from onlyheard.plays import Play
from onlyheard.routines import Routine
from onlyheard.worlds import behind, first_world, is_failed, is_stuck, led, moves, worlds
from samples import caught


def known_plays(many, seed):
    """Pairs of a play and what the reference tells of its worlds, None where there are too many."""
    found = []
    for blocks, own, over in plays(many, seed):
        play = Play({name: Routine(block) for name, block in blocks.items()}, own, over)
        found.append((play, reference.Game(blocks, own, over).walk(400)))
    return found


class RandomPlays(unittest.TestCase):
    @classmethod
    def setUpClass(cls):
        cls.all = known_plays(1000, 23)
        cls.known = [(play, known) for play, known in cls.all if known is not None]

    def run_of(self, known, dice, longest):
        """A run at random, with its row and the world at its end."""
        world, run, row = next(iter(known)), [], []
        while known[world] and len(run) < longest:
            move = dice.choice(list(known[world]))
            noted, world = known[world][move]
            run.append(move)
            row += [] if noted is None else [noted]
        return run, row, world

    def test_there_are_plays_of_all_kinds(self):
        sizes = [len(known) for _, known in self.known]
        self.assertGreater(len(self.all), len(sizes))
        self.assertGreater(sum(size > 10 for size in sizes), 200)
        self.assertGreater(sum(size > 100 for size in sizes), 30)
        ways = [way for _, known in self.known for found in known.values() for way in found.values()]
        self.assertEqual({noted[0] for noted, _ in ways if noted is not None}, {"pick", "told", "heard", "over"})

    def test_worlds(self):
        for play, known in self.all:
            if known is None:
                self.assertEqual(caught(TooMany, worlds, play), 400)
                self.assertEqual(caught(TooMany, may_be, play, []), 400)
            else:
                self.assertEqual(repr(worlds(play)), repr(list(known)))
                self.assertEqual(first_world(play), list(known)[0])

    def test_moves_behind_and_notices(self):
        for play, known in self.known[::3]:
            for world, ways in known.items():
                self.assertEqual(repr(moves(play, world)), repr(list(ways)))
                own = world[play.names().index(play.own)]
                failed = any(stand[0] == "fail" for stand in world)
                self.assertIs(is_failed(play, world), failed)
                self.assertIs(is_stuck(play, world), not ways and not failed and own != ("home",))
                for move, (noted, after) in ways.items():
                    self.assertEqual(repr(behind(play, world, move)), repr(after))
                    self.assertEqual(repr(notice(play, world, move)), repr(noted))

    def test_runs(self):
        dice = random.Random(3)
        for play, known in self.known:
            run, row, world = self.run_of(known, dice, 40)
            self.assertEqual(led(play, run)[-1], world)
            self.assertEqual(noticed(play, run), row)

    def test_may_be(self):
        dice = random.Random(4)
        for play, known in self.known:
            _, row, world = self.run_of(known, dice, 20)
            for many in range(len(row) + 1):
                some = reference.may_be(known, row[:many])
                self.assertEqual(may_be(play, row[:many]), sorted(some))
                self.assertEqual(len({world[play.names().index(play.own)] for world in some}), 1)
            self.assertIn(world, may_be(play, row))

    def fact(self, play, dice):
        name = dice.choice(play.names())
        routine = play.routines[name]
        facts = [("home", name)]
        facts += [("value", name, n, dice.choice([0, 0, 1, 2, dice.randrange(10)])) for n in routine.names()]
        facts += [("stands", name, path) for path in routine.paths()
                  if routine.statement(path)[0] in ("tell", "hear", "wait", "open")]
        return dice.choice(facts)

    def is_so(self, play, world, fact):
        stand = world[play.names().index(fact[1])]
        if fact[0] == "value":
            names = play.routines[fact[1]].names()
            return stand[0] == "at" and stand[2][names.index(fact[2])] == fact[3]
        return stand == ("home",) if fact[0] == "home" else stand[:2] == ("at", fact[2])

    def test_knows(self):
        dice = random.Random(5)
        words = []
        for play, known in self.known:
            for longest in (0, 1, 3, 8, 20):
                row, fact = self.run_of(known, dice, longest)[1], self.fact(play, dice)
                answer = knows(play, row, fact)
                words.append(answer[0])
                so = {self.is_so(play, world, fact) for world in reference.may_be(known, row)}
                self.assertEqual(answer[0], {(True,): "always", (False,): "never"}.get(tuple(so), "both"))
                self.assertIsNone(knows_fault(play, row, fact, answer))
                if answer[0] == "both":
                    for run, wanted in zip(answer[1:], (True, False)):
                        self.assertEqual(noticed(play, run), row)
                        self.assertIs(self.is_so(play, led(play, run)[-1], fact), wanted)
        self.assertGreater(min(words.count(word) for word in ("always", "never", "both")), 300)

    def test_knows_fault(self):
        dice = random.Random(6)
        faults = []
        for play, known in self.known:
            run, row, _ = self.run_of(known, dice, 6)
            runs = [dice.choice([run, self.run_of(known, dice, dice.randrange(8))[0]]) for _ in range(2)]
            fact = self.fact(play, dice)
            rows = [noticed(play, run) == row for run in runs]
            so = [self.is_so(play, led(play, run)[-1], fact) for run in runs]
            wanted = None
            if False in rows:
                wanted = ("row", rows.index(False))
            elif so != [True, False]:
                wanted = ("fact", 1 if so[0] else 0)
            self.assertEqual(knows_fault(play, row, fact, ("both", *runs)), wanted)
            faults.append(wanted)
        self.assertEqual(set(faults), {None, ("row", 0), ("row", 1), ("fact", 0), ("fact", 1)})

    def test_rows_that_no_run_has(self):
        dice = random.Random(8)
        many = 0
        for play, known in self.known:
            row = self.run_of(known, dice, 6)[1] + [("heard", "p", dice.randrange(3))]
            some = reference.may_be(known, row)
            self.assertEqual(may_be(play, row), sorted(some))
            if not some:
                many += 1
                self.assertIs(caught(NoRow, knows, play, row, ("home", play.own)), row)
        self.assertGreater(many, 400)


if __name__ == "__main__":
    unittest.main()
