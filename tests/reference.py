"""The same answers, found in other ways than the program finds them."""

import re

from samples import KEPT_WORDS

# Each part of a statement: n a name, e an expression, b a block, r rows, o blocks.
STATEMENTS = {
    "set": "ne", "tell": "ne", "hear": "nn", "wait": "r", "open": "o", "if": "ebb", "repeat": "b",
    "leave": "", "home": "", "fail": "",
}


def is_name(value):
    return type(value) is str and re.fullmatch("[a-z]{1,8}", value) is not None and value not in KEPT_WORDS


def depth_of(value):
    """How deep an expression is; 100 for what is no expression."""
    if type(value) is int:
        return 1 if value in range(10) else 100
    if type(value) is not tuple or not value or type(value[0]) is not str:
        return 100
    head, parts = value[0], value[1:]
    if head == "name":
        return 1 if len(parts) == 1 and is_name(parts[0]) else 100
    if (head, len(parts)) not in [("plus", 2), ("minus", 2), ("same", 2), ("less", 2), ("not", 1)]:
        return 100
    return 1 + max(depth_of(part) for part in parts)


def is_block(value):
    return type(value) is tuple and len(value) <= 12


def is_part(sign, value):
    if sign == "n":
        return is_name(value)
    if sign == "e":
        return depth_of(value) <= 5
    if sign == "b":
        return is_block(value)
    if type(value) is not tuple or len(value) not in (1, 2, 3, 4):
        return False
    if sign == "o":
        return all(is_block(block) for block in value)
    for row in value:
        if type(row) is not tuple or len(row) != 3 or not (is_name(row[0]) and is_name(row[1]) and is_block(row[2])):
            return False
    return len(set(row[0] for row in value)) == len(value)


def inner_blocks(item):
    """The blocks of a statement; None if the item is no statement."""
    if type(item) is not tuple or not item or type(item[0]) is not str or item[0] not in STATEMENTS:
        return None
    signs = STATEMENTS[item[0]]
    if len(item) != 1 + len(signs) or not all(is_part(sign, part) for sign, part in zip(signs, item[1:])):
        return None
    blocks = []
    for sign, part in zip(signs, item[1:]):
        if sign == "b":
            blocks.append(part)
        elif sign == "o":
            blocks.extend(part)
        elif sign == "r":
            blocks.extend(row[2] for row in part)
    return blocks


def is_sound(item, depth):
    blocks = inner_blocks(item)
    return blocks is not None and not (depth == 12 and blocks)


def first_wrong(block):
    """What BadRoutine tells of a value, "right" if it is right."""
    if not is_block(block):
        return ()
    wrong, many, todo = [], 0, [((), block, 1, False)]
    while todo:
        path, items, depth, in_repeat = todo.pop()
        for index, item in enumerate(items):
            many += 1
            here = path + (index,)
            if not is_sound(item, depth):
                wrong.append(here)
                continue
            if item == ("leave",) and not in_repeat:
                wrong.append(here)
            if item[0] == "repeat" and comes_to_end(item[1], depth + 1):
                wrong.append(here)
            for number, inner in enumerate(inner_blocks(item)):
                todo.append((here + (number,), inner, depth + 1, in_repeat or item[0] == "repeat"))
    if wrong:
        return min(wrong)
    return None if many > 6000 else "right"


def comes_to_end(block, depth):
    """Whether some way through the block of a repeat comes to its end without dealing, step by step."""
    seen, todo = set(), [((0, block, "repeat"),)]
    while todo:
        frames = todo.pop()
        key = tuple((index, id(items)) for index, items, _ in frames)
        if key in seen:
            continue
        seen.add(key)
        index, items, _ = frames[-1]
        if index == len(items):
            if len(frames) == 1:
                return True
            todo.append(left(frames))
        else:
            todo.extend(next_frames(frames, items[index], depth + len(frames) - 1))
    return False


def left(frames):
    """Behind the end of an inner block."""
    _, items, kind = frames[-1]
    return frames[:-1] + ((0, items, kind),) if kind == "repeat" else stepped(frames[:-1])


def stepped(frames):
    index, items, kind = frames[-1]
    return frames[:-1] + ((index + 1, items, kind),)


def next_frames(frames, item, depth):
    if not is_sound(item, depth) or item[0] in ("tell", "hear", "wait", "home", "fail"):
        return []
    if item[0] == "set":
        return [stepped(frames)]
    if item[0] == "leave":
        while frames[-1][2] != "repeat":
            frames = frames[:-1]
        return [stepped(frames[:-1])] if len(frames) > 1 else []
    return [frames + ((0, inner, item[0]),) for inner in inner_blocks(item)]


class Left(Exception):
    pass


class Ended(Exception):
    pass


def value_of(expression, held):
    if type(expression) is int:
        return expression
    if expression[0] == "name":
        return held[expression[1]]
    values = [value_of(part, held) for part in expression[1:]]
    return {
        "plus": lambda x, y: int(str(x + y)[-1]),
        "minus": lambda x, y: int(str(x + 10 - y)[-1]),
        "same": lambda x, y: int(x - y == 0),
        "less": lambda x, y: int(x in range(y)),
        "not": lambda x: int(not x),
    }[expression[0]](*values)


def names_in(thing):
    """The names in a block, a statement or an expression, found by their places."""
    names = set()
    for sub in thing:
        if type(sub) is tuple:
            names |= names_in(sub)
    if thing and thing[0] in ("set", "name") and len(thing) > 1:
        names.add(thing[1])
    if thing and thing[0] == "hear":
        names.add(thing[2])
    if thing and thing[0] == "wait":
        names |= {row[1] for row in thing[1]}
    return names


def run(block, held, done, path=()):
    """A generator that yields (statement, path) where the routine stands, and is sent what is done there.

    Behind each of these, `done` gathers the paths of the statements.
    """
    for index, statement in enumerate(block):
        here = path + (index,)
        head = statement[0]
        done.append(here)
        if head == "set":
            held[statement[1]] = value_of(statement[2], held)
        elif head == "tell":
            yield (statement, here)
        elif head == "hear":
            held[statement[2]] = (yield (statement, here))[1]
        elif head == "wait":
            port, digit = yield (statement, here)
            number = [row[0] for row in statement[1]].index(port)
            held[statement[1][number][1]] = digit
            yield from run(statement[1][number][2], held, done, here + (number,))
        elif head == "open":
            number = yield (statement, here)
            yield from run(statement[1][number], held, done, here + (number,))
        elif head == "if":
            number = 0 if value_of(statement[1], held) else 1
            yield from run(statement[2 + number], held, done, here + (number,))
        elif head == "repeat":
            try:
                while True:
                    yield from run(statement[1], held, done, here + (0,))
            except Left:
                pass
        elif head == "leave":
            raise Left
        else:
            raise Ended(("home",) if head == "home" else ("fail", here))


def stand_behind(block, deeds, done=None):
    """(stand, statement) behind some deeds, done one by one from the begin; no statement at home or behind a fail.

    A list `done` gets the paths of the statements that were done since the last deed.
    """
    held = {name: 0 for name in names_in(block)}
    done = [] if done is None else done
    steps = run(block, held, done)
    try:
        statement, path = next(steps)
        for deed in deeds:
            done.clear()
            statement, path = steps.send(deed)
    except StopIteration:
        return ("home",), (None,)
    except Ended as ended:
        return ended.args[0], (None,)
    return ("at", path, tuple(held[name] for name in sorted(held))), statement


class Game:
    """A play in which each world is told by what each routine did from the begin on."""

    def __init__(self, blocks, own, over=()):
        self.blocks, self.own, self.over = blocks, own, over
        self.names = sorted(blocks)
        self.known = {}

    def first(self):
        return {name: () for name in self.names}

    def at(self, deeds):
        for name in self.names:
            if (name, deeds[name]) not in self.known:
                self.known[name, deeds[name]] = stand_behind(self.blocks[name], deeds[name])
        return {name: self.known[name, deeds[name]] for name in self.names}

    def world(self, deeds):
        return tuple(self.at(deeds)[name][0] for name in self.names)

    def digit(self, deeds, name):
        """What the routine tells."""
        stand, statement = self.at(deeds)[name]
        held = dict(zip(sorted(names_in(self.blocks[name])), stand[2]))
        return value_of(statement[2], held)

    def moves(self, deeds):
        at = self.at(deeds)
        if any(stand[0] == "fail" for stand, _ in at.values()):
            return []
        found = []
        for name, (_, statement) in at.items():
            if statement[0] == "open":
                found += [("pick", name, k) for k, _ in enumerate(statement[1])]
            if statement[0] == "tell":
                for other, (_, hears) in at.items():
                    if hears[0] == "hear" and hears[1] == statement[1]:
                        found.append(("tell", name, other, statement[1]))
                    if hears[0] == "wait" and statement[1] in [row[0] for row in hears[1]]:
                        found.append(("tell", name, other, statement[1]))
        return sorted(found)

    def behind(self, deeds, move):
        after = dict(deeds)
        if move[0] == "pick":
            after[move[1]] += (move[2],)
        else:
            after[move[1]] += (None,)
            after[move[2]] += ((move[3], self.digit(deeds, move[1])),)
        return after

    def notice(self, deeds, move):
        if move[0] == "pick":
            return ("pick", move[2]) if move[1] == self.own else None
        if move[1] == self.own:
            return ("told", move[3])
        digit = self.digit(deeds, move[1])
        if move[2] == self.own:
            return ("heard", move[3], digit)
        return ("over", move[3], digit) if move[3] in self.over else None

    def walk(self, most):
        """The dict from the worlds, in the order of the walk, to the dicts from moves to (notice, world behind).

        None if there are more worlds than told.
        """
        first = self.first()
        todo, known = [first], {self.world(first): {}}
        for deeds in todo:
            for move in self.moves(deeds):
                after = self.behind(deeds, move)
                if self.world(after) not in known:
                    known[self.world(after)] = {}
                    todo.append(after)
                known[self.world(deeds)][move] = (self.notice(deeds, move), self.world(after))
            if len(known) > most:
                return None
        return known


def unseen_from(known, some):
    """All worlds that moves without a notice lead to from some worlds, they themselves among them."""
    while True:
        more = {after for world in some for noted, after in known[world].values() if noted is None} - some
        if not more:
            return some
        some = some | more


def may_be(known, row):
    """The set of the worlds behind a row, set by set."""
    some = unseen_from(known, {next(iter(known))})
    for wanted in row:
        some = unseen_from(known, {
            after for world in some for noted, after in known[world].values() if noted == wanted})
    return some
