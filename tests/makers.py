"""Blocks and plays that are made at random."""

import random

from samples import wrong_at

WRONG = [None, True, (), ("set", "a", True), ("leave", 1), ("if", 1, ()), ("tell", "set", 1), ("set", "a", 10)]


class Maker:
    """Makes blocks at random."""

    ports = "pqr"

    def __init__(self, seed, wrong):
        self.dice = random.Random(seed)
        self.wrong = wrong

    def expression(self, deepest):
        kind = self.dice.choice(["digit", "name", "name", "plus", "minus", "same", "less", "not"])
        if kind == "digit" or deepest == 1:
            return self.dice.randrange(10)
        if kind == "name":
            return ("name", self.dice.choice("abc"))
        many = 1 if kind == "not" else 2
        return (kind, *[self.expression(deepest - 1) for _ in range(many)])

    def block(self, deepest, in_repeat):
        longest = 3 if deepest > 0 else 2
        return tuple(self.item(deepest, in_repeat) for _ in range(self.dice.randrange(longest + 1)))

    def kinds(self, deepest, in_repeat):
        kinds = ["set", "set", "tell", "hear", "home", "fail"] + ["leave"] * (4 if in_repeat else self.wrong > 0)
        return kinds + ["wait", "open", "if", "if", "open", "repeat", "repeat", "repeat"] * (deepest > 0)

    def item(self, deepest, in_repeat):
        if self.dice.random() < self.wrong:
            return self.dice.choice(WRONG)
        kind = self.dice.choice(self.kinds(deepest, in_repeat))
        if kind in ("leave", "home", "fail"):
            return (kind,)
        if kind == "set":
            return ("set", self.dice.choice("abc"), self.expression(3))
        if kind == "tell":
            return ("tell", self.dice.choice(self.ports), self.expression(3))
        if kind == "hear":
            return ("hear", self.dice.choice(self.ports), self.dice.choice("abc"))
        many = self.dice.randrange(1, 4)
        blocks = [self.block(deepest - 1, in_repeat or kind == "repeat") for _ in range(max(2, many))]
        if kind == "wait":
            ports = self.dice.sample(self.ports + "s", many)
            return ("wait", tuple((port, self.dice.choice("abc"), block) for port, block in zip(ports, blocks)))
        if kind == "open":
            return ("open", tuple(blocks[:many]))
        if kind == "if":
            return ("if", self.expression(3), blocks[0], blocks[1])
        return ("repeat", blocks[0])


def blocks(many, wrong, seed):
    maker = Maker(seed, wrong)
    return [maker.block(maker.dice.randrange(1, 6), False) for _ in range(many)]


class Dealer(Maker):
    """Makes blocks that tell and hear more, at fewer ports, and end less often."""

    ports = "pq"

    def kinds(self, deepest, in_repeat):
        kinds = ["set"] + ["tell", "hear"] * 2 + ["home", "fail"] * (self.dice.random() < 0.2) + ["leave"] * in_repeat
        return kinds + ["wait", "wait", "wait", "open", "open", "open", "if"] * (deepest > 0)

    def routine(self):
        block = tuple(self.item(2, False) for _ in range(self.dice.randrange(1, 6)))
        again = (("repeat", block),)
        return again if self.dice.random() < 0.6 and wrong_at(again) == "right" else block


def plays(many, seed):
    """Plays of two to four routines, as triples (dict from names to blocks, own name, overheard ports)."""
    maker = Dealer(seed, 0)
    found = []
    while len(found) < many:
        names = maker.dice.sample(["a", "bb", "us", "foe", "zed"], maker.dice.choice([2, 2, 3, 3, 4]))
        made = {name: maker.routine() for name in names}
        if all(wrong_at(block) == "right" for block in made.values()):
            ports = maker.dice.sample("pqsx", maker.dice.randrange(3))
            found.append((made, maker.dice.choice(names), tuple(sorted(ports))))
    return found


class Rounds:
    """Makes plays of rounds, in each of which one routine picks a digit that the own one must tell."""

    def __init__(self, seed):
        self.dice = random.Random(seed)

    def often(self, chance):
        return self.dice.random() < chance

    def round(self):
        """The statements of a round for the foe, for the own routine, and for one that hears what is overheard."""
        digits = self.dice.sample([1, 2, 3], 2)
        foe = [("open", tuple((("set", "x", digit),) for digit in digits))]
        own, third = [], []
        told = self.dice.choice(["p", "p", "r", "r", None])
        if told is not None:
            foe.append(("tell", told, ("name", "x")))
            if told == "p":
                own.append(("hear", "p", "a"))
            else:
                third.append(("hear", "r", "z"))
        if self.often(0.3):
            foe.append(("tell", "p", 0))
            own.append(("hear", "p", "b"))
        blocks = [(("tell", "q", digit),) for digit in digits] + [(("tell", "q", ("name", "a")),)]
        own.append(("open", tuple(self.dice.sample(blocks, self.dice.choice([2, 2, 3])))))
        bad = (("fail",),) if self.often(0.6) else (("home",),)
        foe += [("hear", "q", "y"), ("if", ("same", ("name", "x"), ("name", "y")), (), bad)]
        return foe, own, third

    def play(self):
        parts = [[], [], []]
        for _ in range(self.dice.choice([1, 2])):
            for part, statements in zip(parts, self.round()):
                part += [item for item in statements if self.often(0.97)]
        if self.often(0.2):
            parts[1].insert(0, ("open", ((("home",),), (("tell", "s", 1),), ())))
        blocks = [tuple(part) for part in parts]
        if self.often(0.4):
            blocks = [(("repeat", block),) if wrong_at((("repeat", block),)) == "right" else block for block in blocks]
        foe, own, third = blocks
        names = {"a": foe, "us": own, "x": third} if third else {"a": foe, "us": own}
        return names, "us", self.dice.choice([(), ("r",), ("p", "r")])


def rounds(many, seed):
    """Plays of rounds, as triples like those of `plays`; some have many worlds."""
    maker = Rounds(seed)
    return [maker.play() for _ in range(many)]
