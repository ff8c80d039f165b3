"""[8] to [12] at many routines, against the reference; the seed is fixed."""

import random
import unittest

import reference
from makers import Maker, blocks
from onlyheard.routines import Routine
from onlyheard.stands import begun, choices, heard, listens, picked, tells, told
from samples import wrong_at


class Checks(unittest.TestCase):
    def test_first_wrong_paths(self):
        found = {}
        for wrong in (0, 0.03, 0.1):
            for block in blocks(4000, wrong, 7):
                got = wrong_at(block)
                self.assertEqual(repr(got), repr(reference.first_wrong(block)), block)
                found[got] = found.get(got, 0) + 1
        self.assertGreater(found["right"], 2000)
        self.assertGreater(len(found), 50)

    def test_deep_blocks(self):
        maker = Maker(11, 0.02)
        for _ in range(400):
            block = maker.block(3, True)
            for _ in range(maker.dice.randrange(7, 11)):
                inner = maker.block(1, True)
                block = maker.dice.choice([
                    (*inner[:1], ("repeat", block)), (("if", 1, block, inner),), (("open", (inner, block)), *inner),
                ])
            self.assertEqual(repr(wrong_at(block)), repr(reference.first_wrong(block)), block)


class Runs(unittest.TestCase):
    def same_run(self, block, dice):
        routine, held = Routine(block), {name: 0 for name in reference.names_in(block)}
        self.assertEqual(routine.names(), sorted(held))
        steps = reference.run(block, held, [])
        stand, deed = begun(routine), None
        for _ in range(30):
            try:
                statement, path = steps.send(deed)
            except StopIteration:
                return self.assertEqual(stand, ("home",))
            except reference.Ended as ended:
                return self.assertEqual(repr(stand), repr(ended.args[0]))
            values = tuple(held[name] for name in sorted(held))
            self.assertEqual(repr(stand), repr(("at", path, values)), block)
            self.assertEqual(statement, routine.statement(path))
            stand, deed = self.done(routine, stand, statement, held, dice)

    def done(self, routine, stand, statement, held, dice):
        """Does something there; the stand behind it, and what was done."""
        head = statement[0]
        many = len(statement[1]) if head == "open" else 0
        self.assertEqual(choices(routine, stand), many)
        ports = sorted(row[0] for row in statement[1]) if head == "wait" else [statement[1]] if head == "hear" else []
        self.assertEqual(listens(routine, stand), ports)
        told_pair = (statement[1], reference.value_of(statement[2], held)) if head == "tell" else None
        self.assertEqual(repr(tells(routine, stand)), repr(told_pair))
        if head == "open":
            k = dice.randrange(many)
            return picked(routine, stand, k), k
        if head == "tell":
            return told(routine, stand), None
        port, digit = dice.choice(ports), dice.randrange(10)
        return heard(routine, stand, port, digit), (port, digit)

    def test_runs(self):
        dice = random.Random(5)
        right = [block for block in blocks(4000, 0, 3) if wrong_at(block) == "right"]
        self.assertGreater(len(right), 1000)
        for block in right:
            for _ in range(3):
                self.same_run(block, dice)


if __name__ == "__main__":
    unittest.main()
