"""A second reader of texts, which goes down into blocks by itself, and says which line is the first wrong one."""

import re

from reference import comes_to_end, depth_of
from samples import KEPT_WORDS

NAME = "(?!(?:" + "|".join(KEPT_WORDS) + r")\b)[a-z]{1,8}"
HEADS = {"set": rf"set ({NAME}) (.*)", "tell": rf"tell ({NAME}) (.*)", "if": "if (.*)",
    "hear": rf"hear ({NAME}) ({NAME})"}
ROW = rf"on ({NAME}) ({NAME})"


class Wrong(Exception):
    pass


def expression(text):
    """The expression of a text, whatever its depth; None if it is none."""
    if re.fullmatch("[0-9]", text):
        return int(text)
    if re.fullmatch(NAME, text):
        return ("name", text)
    if not (text.startswith("(") and text.endswith(")")) or len(text) > 1000:
        return None
    inner = text[1:-1]
    if inner.startswith("not "):
        part = expression(inner[4:])
        return None if part is None else ("not", part)
    depth = 0
    for index, sign in enumerate(inner):
        depth += {"(": 1, ")": -1}.get(sign, 0)
        found = re.match(" (plus|minus|same|less) ", inner[index:])
        if depth == 0 and found:
            one, other = expression(inner[:index]), expression(inner[index + len(found.group()):])
            return None if one is None or other is None else (found.group(1), one, other)
    return None


class Reader:
    """Reads lines from one on; `ahead` stands ahead of each of them."""

    def __init__(self, lines, index, ahead):
        self.lines, self.index, self.ahead, self.many = lines, index, ahead, 0

    def wrong(self):
        raise Wrong(self.index + 1)

    def line(self):
        """The present line without what stands ahead of each; None at the end of the text, or of the routine."""
        if self.index == len(self.lines):
            return None
        line = self.lines[self.index]
        if not self.ahead:
            return line
        return line[len(self.ahead):] if line.startswith(self.ahead) else None

    def mark(self, depth, pattern):
        """Goes behind the present line if it is such a mark of a statement in a block of this depth."""
        line = self.line()
        found = None if line is None else re.fullmatch("  " * (depth - 1) + pattern, line)
        self.index += found is not None
        return found

    def block(self, depth, in_repeat):
        """The statements up to a line of the statement around them."""
        found = []
        while True:
            line = self.line()
            if line is None:
                if depth == 1:
                    return tuple(found)
                self.wrong()
            if depth > 1 and re.match("  " * (depth - 2) + "(on|or|else|end)( |$)", line):
                return tuple(found)
            if len(found) == 12 or self.many == 6000:
                self.wrong()
            self.many += 1
            found.append(self.statement(line, depth, in_repeat))

    def statement(self, line, depth, in_repeat):
        if not line.startswith("  " * (depth - 1)):
            self.wrong()
        text = line[2 * (depth - 1):]
        if text in ("home", "fail") or text == "leave" and in_repeat:
            self.index += 1
            return (text,)
        if depth < 12 and text in ("wait", "open", "repeat"):
            self.index += 1
            return getattr(self, "read_" + text)(depth, in_repeat)
        for head, pattern in HEADS.items():
            found = re.fullmatch(pattern, text)
            if found:
                parts = list(found.groups())
                if head != "hear":
                    parts[-1] = expression(parts[-1])
                    if depth_of(parts[-1]) > 5 or head == "if" and depth == 12:
                        self.wrong()
                self.index += 1
                return (head, *parts) if head != "if" else self.read_if(parts[0], depth, in_repeat)
        return self.wrong()

    def read_if(self, test, depth, in_repeat):
        one = self.block(depth + 1, in_repeat)
        if not self.mark(depth, "else"):
            self.wrong()
        other = self.block(depth + 1, in_repeat)
        if not self.mark(depth, "end"):
            self.wrong()
        return ("if", test, one, other)

    def read_repeat(self, depth, _):
        block = self.block(depth + 1, True)
        if comes_to_end(block, depth + 1) or not self.mark(depth, "end"):
            self.wrong()
        return ("repeat", block)

    def read_open(self, depth, in_repeat):
        blocks = [self.block(depth + 1, in_repeat)]
        while len(blocks) < 4 and self.mark(depth, "or"):
            blocks.append(self.block(depth + 1, in_repeat))
        if not self.mark(depth, "end"):
            self.wrong()
        return ("open", tuple(blocks))

    def read_wait(self, depth, in_repeat):
        rows = []
        while len(rows) < 4:
            found = self.mark(depth, ROW)
            if not found:
                break
            if found.group(1) in [row[0] for row in rows]:
                self.index -= 1
                self.wrong()
            rows.append((*found.groups(), self.block(depth + 1, in_repeat)))
        if not rows or not self.mark(depth, "end"):
            self.wrong()
        return ("wait", tuple(rows))


def routine(text):
    """The block of a text, or the number of the first wrong line."""
    reader = Reader(text.split("\n") if text else [], 0, "")
    try:
        return reader.block(1, False)
    except Wrong as wrong:
        return wrong.args[0]


def play(text):
    """The triple (blocks, own, over) of a text, or the number of the first wrong line."""
    try:
        return read_play(text.split("\n"))
    except Wrong as wrong:
        return wrong.args[0]


def read_play(lines):
    blocks, index = {}, 0
    while index < len(lines):
        found = re.fullmatch(rf"routine ({NAME})", lines[index])
        if not found:
            break
        if len(blocks) == 4 or blocks and max(blocks) >= found.group(1):
            raise Wrong(index + 1)
        reader = Reader(lines, index + 1, "  ")
        blocks[found.group(1)] = reader.block(1, False)
        index = reader.index
    if index == len(lines):
        raise Wrong(index + 1)
    if len(blocks) < 2 or lines[index] not in [f"own {name}" for name in blocks]:
        raise Wrong(index + 1)
    own = lines[index][4:]
    if index + 1 == len(lines):
        raise Wrong(index + 2)
    found = re.fullmatch(f"over((?: {NAME})*)", lines[index + 1])
    over = found and tuple(found.group(1).split())
    if over is None or list(over) != sorted(set(over)):
        raise Wrong(index + 2)
    if index + 2 < len(lines):
        raise Wrong(index + 3)
    return blocks, own, over
