"""Routines, made of their top blocks."""

from onlyheard.blocks import count_statements, first_wrong, laid_out
from onlyheard.errors import BadRoutine, NoPath
from onlyheard.forms import is_block, is_path, names_of, ports_of

MOST_STATEMENTS = 6000


class Routine:
    """A routine. Its attribute `block` is its top block."""

    def __init__(self, block):
        _check(block)
        self.block = block
        rows = laid_out(block, (), None, None)
        self._statements = {row[0]: row[1] for row in rows}
        self._followers = {row[0]: row[2] for row in rows}
        self._names = sorted({name for row in rows for name in names_of(row[1])})
        self._ports = sorted({port for row in rows for port in ports_of(row[1])})

    def __eq__(self, other):
        return isinstance(other, Routine) and self.block == other.block

    def names(self):
        """The ascending list of the names in it."""
        return list(self._names)

    def ports(self):
        """The ascending list of its ports."""
        return list(self._ports)

    def paths(self):
        """The ascending list of the paths of its statements."""
        return list(self._statements)

    def open_lines(self):
        """The ascending list of the paths of its open lines."""
        return [path for path, statement in self._statements.items() if statement[0] == "open"]

    def statement(self, path):
        """The statement at the path."""
        if not is_path(path) or path not in self._statements:
            raise NoPath(path)
        return self._statements[path]

    def follower(self, path):
        """The path of the statement that comes when the one at the path, one of `paths()`, is done.

        None if that is the end of the routine.
        """
        return self._followers[path]


def _check(block):
    """Raises the BadRoutine that is due."""
    if not is_block(block):
        raise BadRoutine(())
    wrong = first_wrong(block, (), 1, False)
    if wrong is not None:
        raise BadRoutine(wrong)
    if count_statements(block) > MOST_STATEMENTS:
        raise BadRoutine(None)
