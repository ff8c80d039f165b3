"""The texts of routines and of plays."""

from onlyheard.drafts import Draft, PlayDraft
from onlyheard.errors import BadText
from onlyheard.lines import block_lines


def routine_text(routine):
    """The text of a routine."""
    return "\n".join(block_lines(routine.block, ""))


def play_text(play):
    """The text of a play."""
    lines = []
    routines = play.routines
    for name in play.names():
        lines.append(f"routine {name}")
        lines.extend(block_lines(routines[name].block, "  "))
    lines.append(f"own {play.own}")
    lines.append(" ".join(["over", *play.over]))
    return "\n".join(lines)


def read_routine(text):
    """The routine whose text it is."""
    _check(text)
    draft = Draft()
    _read(draft, text.split("\n") if len(text) > 0 else [])
    return draft.whole_routine()


def read_play(text):
    """The play whose text it is."""
    _check(text)
    draft = PlayDraft()
    _read(draft, text.split("\n"))
    return draft.whole_play()


def _check(value):
    if not isinstance(value, str):
        raise BadText(0)


def _read(draft, lines):
    """Gives the lines to a draft; BadText."""
    for number, line in enumerate(lines, start=1):
        if not draft.takes(line):
            raise BadText(number)
    if not draft.is_whole():
        raise BadText(len(lines) + 1)
