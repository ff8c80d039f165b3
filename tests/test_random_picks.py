"""[26] to [29] at many plays, against the reference; the seeds are fixed."""

import itertools
import random
import unittest

from aimed import Aimed, statement_at
from makers import plays, rounds
from onlyheard.errors import TooMany
from onlyheard.overhearing import least_deaf, least_over
from onlyheard.picks import alone, breaking, fixed, fixed_play, least_home, needed, struck
from onlyheard.plays import Play
from onlyheard.routines import Routine
from reference import Game, inner_blocks
from samples import caught


def games(many, seed, most):
    """Triples (play, blocks, what the reference tells of its worlds) of plays with few worlds."""
    found = []
    for blocks, own, over in plays(many, seed) + rounds(many // 2, seed):
        known = Game(blocks, own, over).walk(most)
        if known is not None:
            found.append((Play({name: Routine(block) for name, block in blocks.items()}, own, over), blocks, known))
    return found


def first_breaking(aimed, picks=None):
    """The first of the shortest runs that break the aim, level by level; `picks` may fix those of the own routine."""
    level, seen = {(aimed.first, aimed.left): []}, set()
    while level:
        bad = [run for (world, left), run in level.items()
               if aimed.is_bad(world) or aimed.is_out(world[aimed.place], left)]
        if bad:
            return min(bad)
        seen |= set(level)
        nexts = {}
        for (world, left), run in level.items():
            for move, (noted, after) in aimed.known[world].items():
                if picks is not None and noted is not None and noted[0] == "pick":
                    if picks[world[aimed.place][1]] != noted[1]:
                        continue
                place = (after, left if noted is None else aimed.fewer(left, noted))
                if place not in seen and (place not in nexts or run + [move] < nexts[place]):
                    nexts[place] = run + [move]
        level = nexts
    return None


def all_places(aimed):
    """The pairs of a world and of the dealings left, over all runs that have not broken the aim by them."""
    seen, todo = set(), [(aimed.first, aimed.left)]
    while todo:
        world, left = todo.pop()
        if (world, left) not in seen:
            seen.add((world, left))
            if not aimed.is_out(world[aimed.place], left):
                todo += [(after, left if noted is None else aimed.fewer(left, noted))
                         for noted, after in aimed.known[world].values()]
    return seen


def without(block, path, keep):
    """The block with those blocks alone of the open line at the path whose numbers are told."""
    index = path[0]
    statement = block[index]
    if len(path) == 1:
        changed = ("open", tuple(statement[1][k] for k in keep))
    else:
        inner = without(inner_blocks(statement)[path[1]], path[2:], keep)
        changed = put_block(statement, path[1], inner)
    return block[:index] + (changed,) + block[index + 1:]


def put_block(statement, number, inner):
    if statement[0] in ("wait", "open"):
        rows = list(statement[1])
        rows[number] = (*rows[number][:2], inner) if statement[0] == "wait" else inner
        return (statement[0], tuple(rows))
    place = (2 if statement[0] == "if" else 1) + number
    return statement[:place] + (inner,) + statement[place + 1:]


class RandomPicks(unittest.TestCase):
    @classmethod
    def setUpClass(cls):
        cls.games = games(260, 61, 100)

    def aimed(self, seed):
        """Each play with several aims, as triples (play, blocks, Aimed)."""
        dice = random.Random(seed)
        for play, blocks, known in self.games:
            for aim in dice.sample(["safe", "going", dice.randrange(8)], 2):
                yield play, blocks, Aimed(blocks, play.own, known, aim)

    def lines(self, play):
        """Pairs (path, number of blocks)."""
        own = play.routines[play.own]
        return [(path, len(statement_at(own.block, path)[1])) for path in own.open_lines()]

    def test_breaking(self):
        lengths = []
        for play, _, aimed in self.aimed(1):
            if aimed.left is not None and len(all_places(aimed)) > 400:
                self.assertEqual(caught(TooMany, breaking, play, aimed.aim), 400)
                continue
            run = breaking(play, aimed.aim)
            self.assertEqual(repr(run), repr(first_breaking(aimed)))
            lengths.append(-1 if run is None else min(len(run), 6))
        self.assertEqual(set(lengths), set(range(-1, 7)))

    def test_fixed(self):
        numbers = []
        for play, _, aimed in self.aimed(2):
            lines = self.lines(play)
            tuples = list(itertools.islice(itertools.product(*[range(many) for _, many in lines]), 257))
            if len(tuples) == 257:
                self.assertEqual(caught(TooMany, fixed, play, aimed.aim), 256)
                continue
            if aimed.left is not None and len(all_places(aimed)) > 400:
                self.assertEqual(caught(TooMany, fixed, play, aimed.aim), 400)
                continue
            wanted = None
            for one in tuples:
                picks = {path: k for (path, _), k in zip(lines, one)}
                if first_breaking(aimed, picks) is None:
                    wanted = picks
                    break
            found = fixed(play, aimed.aim)
            self.assertEqual(repr(found), repr(wanted))
            if found:
                numbers += list(found.values())
                self.assertIsNone(breaking(fixed_play(play, found), aimed.aim))
        self.assertGreater(min(numbers.count(k) for k in (0, 1)), 20)

    def test_fixed_play_and_struck(self):
        dice = random.Random(3)
        many = 0
        for play, blocks, _ in self.games:
            lines = self.lines(play)
            picks = {path: dice.randrange(number) for path, number in lines}
            block = blocks[play.own]
            for path in sorted(picks, reverse=True):
                block = without(block, path, [picks[path]])
            self.assertEqual(fixed_play(play, picks), play.with_own(Routine(block)))
            for path, number in lines:
                k = dice.randrange(number)
                if number > 1:
                    many += 1
                    keep = [other for other in range(number) if other != k]
                    wanted = play.with_own(Routine(without(blocks[play.own], path, keep)))
                    self.assertEqual(struck(play, path, k), wanted)
        self.assertGreater(many, 100)

    def test_needed_and_alone(self):
        lengths = []
        for play, blocks, aimed in self.aimed(4):
            if len(self.lines(play)) > 4:
                continue
            planned = aimed.is_planned()
            pairs, single = [], []
            for path, many in self.lines(play):
                for k in range(many):
                    if aimed.is_planned(lambda at, other: at != path or other == k):
                        single.append((path, k))
                    if many > 1 and planned:
                        keep = [other for other in range(many) if other != k]
                        other = {**blocks, play.own: without(blocks[play.own], path, keep)}
                        known = Game(other, play.own, play.over).walk(400)
                        if not Aimed(other, play.own, known, aimed.aim).is_planned():
                            pairs.append((path, k))
            self.assertEqual(repr(needed(play, aimed.aim)), repr(pairs))
            self.assertEqual(repr(alone(play, aimed.aim)), repr(single))
            lengths.append((min(len(pairs), 2), min(len(single), 2)))
        self.assertGreater(len(set(lengths)), 5)

    def test_least_home(self):
        found = []
        for play, blocks, known in self.games:
            least = [n for n in range(9) if Aimed(blocks, play.own, known, n).is_planned()]
            wanted = least[0] if least else None
            self.assertEqual(least_home(play, most=8), wanted)
            self.assertEqual(least, [] if wanted is None else list(range(wanted, 9)))
            found.append(wanted)
        self.assertGreater(len(set(found)), 5)

    def test_overhearing(self):
        found = []
        for play, blocks, aimed in self.aimed(5):
            ports = play.ports()
            if len(ports) > 6:
                self.assertEqual(caught(TooMany, least_over, play, aimed.aim), 6)
                continue
            if len(ports) > 4 or len(aimed.known) > 40:
                continue
            good, bad = [], []
            for over in self.tuples(ports):
                known = Game(blocks, play.own, over).walk(400)
                if Aimed(blocks, play.own, known, aimed.aim).is_planned():
                    good.append(over)
                else:
                    bad.append(tuple(port for port in ports if port not in over))
            self.assertEqual(least_over(play, aimed.aim), self.least(good))
            self.assertEqual(least_deaf(play, aimed.aim), self.least(bad))
            found.append((str(self.least(good)), str(self.least(bad))))
        self.assertGreater(len(set(found)), 2)

    def tuples(self, ports):
        return [over for many in range(len(ports) + 1) for over in itertools.combinations(ports, many)]

    def least(self, found):
        return sorted(one for one in found if not any(set(other) < set(one) for other in found))


if __name__ == "__main__":
    unittest.main()
