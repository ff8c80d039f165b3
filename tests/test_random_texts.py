"""[32], [33], [34] at many texts, against a second reader; the seeds are fixed."""

import random
import unittest

import readers
from makers import blocks, plays, rounds
from onlyheard.errors import BadText
from onlyheard.plays import Play
from onlyheard.routines import Routine
from onlyheard.texts import play_text, read_play, read_routine, routine_text
from samples import KEPT_WORDS, wrong_at

TOKENS = [*KEPT_WORDS, "a", "b", "p", "q", "us", "r", "1", "0", "9", "10", "(", ")", "(not", "(a", "(a plus 1)", "a)",
    "on p a"]


def answer(read, text):
    try:
        return read(text)
    except BadText as error:
        return error.what


class Spoiler:
    """Makes small changes to texts, most of which make them wrong."""

    def __init__(self, seed):
        self.dice = random.Random(seed)

    def spoil(self, text):
        rows = text.split("\n")
        for _ in range(self.dice.choice([0, 1, 1, 2])):
            index = self.dice.randrange(len(rows))
            kind = self.dice.choice(["drop", "twice", "swap", "in", "out", "word", "word", "cut", "line", "blank",
                "tail", "empty"])
            if kind == "drop" and len(rows) > 1:
                del rows[index]
            elif kind == "twice":
                rows.insert(index, rows[index])
            elif kind == "swap":
                other = self.dice.randrange(len(rows))
                rows[index], rows[other] = rows[other], rows[index]
            elif kind == "cut":
                rows = rows[:index] or [""]
            elif kind == "line":
                rows.insert(index, "  " * self.dice.randrange(5) + self.dice.choice(TOKENS))
            elif kind == "empty":
                rows.insert(index, "")
            else:
                rows[index] = self.row(kind, rows[index])
        return "\n".join(rows)

    def row(self, kind, row):
        if kind == "in":
            return self.dice.choice([" ", "  "]) + row
        if kind == "out":
            return row[self.dice.choice([1, 2]):]
        if kind == "blank":
            return row.replace(" ", "  ", 1)
        if kind == "tail":
            return row + self.dice.choice([" ", ")", "x"])
        words = row.split(" ")
        words[self.dice.randrange(len(words))] = self.dice.choice(TOKENS)
        return " ".join(words)


class RandomTexts(unittest.TestCase):
    def test_routines(self):
        spoiler = Spoiler(1)
        wrong = right = 0
        for block in blocks(2000, 0, 6):
            if wrong_at(block) != "right":
                continue
            text = routine_text(Routine(block))
            self.assertEqual([read_routine(text).block, readers.routine(text)], [block, block])
            for _ in range(4):
                text = spoiler.spoil(text)
                wanted = readers.routine(text)
                found = answer(read_routine, text)
                if isinstance(wanted, int):
                    wrong += 1
                    self.assertEqual(repr(found), repr(wanted), text)
                else:
                    right += 1
                    self.assertEqual(found, Routine(wanted), text)
        self.assertGreater(min(wrong, right), 1000)

    def test_plays(self):
        spoiler = Spoiler(2)
        wrong = right = 0
        for made, own, over in plays(500, 7) + rounds(200, 7):
            play = self.play(made, own, over)
            text = play_text(play)
            self.assertEqual(read_play(text), play)
            self.assertEqual(readers.play(text), (made, own, over))
            for _ in range(4):
                text = spoiler.spoil(text)
                wanted = readers.play(text)
                found = answer(read_play, text)
                if isinstance(wanted, int):
                    wrong += 1
                    self.assertEqual(repr(found), repr(wanted), text)
                else:
                    right += 1
                    self.assertEqual(found, self.play(*wanted), text)
        self.assertGreater(min(wrong, right), 250)

    def play(self, made, own, over):
        return Play({name: Routine(block) for name, block in made.items()}, own, over)


if __name__ == "__main__":
    unittest.main()
