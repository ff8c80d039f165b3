"""Routines and plays while their texts are being read, line by line."""

from onlyheard.blocks import deals
from onlyheard.forms import DEEPEST_BLOCK, LONGEST_BLOCK, MOST_CHOICES, is_name
from onlyheard.lines import read_begin, read_names
from onlyheard.plays import FEWEST_ROUTINES, MOST_ROUTINES, Play, is_over
from onlyheard.routines import MOST_STATEMENTS, Routine

WITH_BLOCKS = ("wait", "open", "if", "repeat")


class Frame:
    """A statement whose "end" has not come yet, or the routine itself.

    Attributes: `begin`, the statement apart from its blocks; `blocks`, the list of the blocks that are done;
    `rows`, the list of the pairs (port, name) of a wait; `block`, the list of the statements of the block that
    is read, None ahead of the first row of a wait.
    """

    def __init__(self, begin):
        self.begin = begin
        self.blocks = []
        self.rows = []
        self.block = None if begin[0] == "wait" else []

    def next_block(self):
        """Ends the block that is read, if there is one, and begins another one."""
        if self.block is not None:
            self.blocks.append(tuple(self.block))
        self.block = []

    def takes_row(self, text):
        """Adds the row of a wait if its line can stand there, and tells whether it can."""
        row = read_names(text)
        if self.begin[0] != "wait" or row is None or len(self.rows) == MOST_CHOICES:
            return False
        if row[0] in [port for port, _ in self.rows]:
            return False
        self.rows.append(row)
        return True

    def statement(self):
        """The whole statement, when its last block is ended."""
        if self.begin[0] == "wait":
            return ("wait", tuple([(port, name, block) for (port, name), block in zip(self.rows, self.blocks)]))
        return ("open", tuple(self.blocks)) if self.begin[0] == "open" else (*self.begin, *self.blocks)


class Draft:
    """A routine that is being read."""

    def __init__(self):
        self._frames = [Frame(("routine",))]
        self._many = 0

    def takes(self, line):
        """Adds a line if it can stand there, and tells whether it can."""
        text = line.lstrip(" ")
        spaces = len(line) - len(text)
        depth = len(self._frames)
        if text.partition(" ")[0] in ("on", "or", "else", "end"):
            # In the top block there is no such number of spaces.
            return spaces == 2 * (depth - 2) and self._goes_on(text)
        return spaces == 2 * (depth - 1) and self._begins(text)

    def is_whole(self):
        """Whether no statement is open."""
        return len(self._frames) == 1

    def whole_routine(self):
        """The routine, which is whole."""
        return Routine(tuple(self._frames[0].block))

    def _begins(self, text):
        """Adds the begin of a statement if it can stand there, and tells whether it can."""
        block = self._frames[-1].block
        begin = read_begin(text)
        if block is None or begin is None or len(block) == LONGEST_BLOCK or self._many == MOST_STATEMENTS:
            return False
        if begin[0] == "leave" and not any([frame.begin[0] == "repeat" for frame in self._frames]):
            return False
        if begin[0] in WITH_BLOCKS and len(self._frames) == DEEPEST_BLOCK:
            return False
        if begin[0] in WITH_BLOCKS:
            self._frames.append(Frame(begin))
        else:
            block.append(begin)
        self._many = self._many + 1
        return True

    def _goes_on(self, text):
        """Adds a further line of the innermost open statement if it can stand there, and tells whether it can."""
        frame = self._frames[-1]
        if text == "end":
            return self._ends(frame)
        if text == "or":
            can_be = frame.begin[0] == "open" and len(frame.blocks) < MOST_CHOICES - 1
        elif text == "else":
            can_be = frame.begin[0] == "if" and len(frame.blocks) == 0
        else:
            head, _, rest = text.partition(" ")
            can_be = head == "on" and frame.takes_row(rest)
        if can_be:
            frame.next_block()
        return can_be

    def _ends(self, frame):
        """Ends the innermost open statement if it can end there, and tells whether it can."""
        head = frame.begin[0]
        if frame.block is None or (head == "if" and len(frame.blocks) == 0):
            return False
        if head == "repeat" and not deals(tuple(frame.block), len(self._frames)):
            return False
        frame.next_block()
        self._frames.pop()
        self._frames[-1].block.append(frame.statement())
        return True


class PlayDraft:
    """A play that is being read."""

    def __init__(self):
        self._drafts = {}
        self._last = ""
        self._own = None
        self._over = None

    def takes(self, line):
        """Adds a line if it can stand there, and tells whether it can."""
        if self._over is not None:
            return False
        if self._own is not None:
            return self._takes_over(line)
        if line.startswith("  "):
            return self._last in self._drafts and self._drafts[self._last].takes(line[2:])
        if self._last in self._drafts and not self._drafts[self._last].is_whole():
            return False
        head, _, name = line.partition(" ")
        if head == "routine":
            return self._takes_routine(name)
        return head == "own" and self._takes_own(name)

    def is_whole(self):
        """Whether its last line has come."""
        return self._over is not None

    def whole_play(self):
        """The play, which is whole."""
        return Play({name: draft.whole_routine() for name, draft in self._drafts.items()}, self._own, self._over)

    def _takes_routine(self, name):
        if not is_name(name) or name <= self._last or len(self._drafts) == MOST_ROUTINES:
            return False
        self._last = name
        self._drafts[name] = Draft()
        return True

    def _takes_own(self, name):
        if len(self._drafts) < FEWEST_ROUTINES or name not in self._drafts:
            return False
        self._own = name
        return True

    def _takes_over(self, line):
        head, *ports = line.split(" ")
        if head != "over" or not is_over(tuple(ports)):
            return False
        self._over = tuple(ports)
        return True
