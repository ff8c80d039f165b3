"""Sittings: live runs of a play."""

from onlyheard.errors import BadFact, BadRun, NoMove
from onlyheard.knowing import is_fact, is_so, known_behind
from onlyheard.notices import worlds_behind
from onlyheard.plans import check_plan
from onlyheard.ways import Ways, check_run, is_way

LONGEST_NOTICE = 3


class Mark:
    """How a sitting was at the begin of a block. `outer` is the mark of the block around it, None if there is none."""

    def __init__(self, steps, world, outer):
        self.steps = steps
        self.world = world
        self.outer = outer


class Sitting:
    """A live run of a play. Its attributes are `play`, `world`, `run` and `row`."""

    def __init__(self, play, plan=None):
        if plan is not None:
            check_plan(play, plan)
        self._plan = None if plan is None else [_copied(state) for state in plan]
        self._ways = Ways(play)
        # The steps are tuples (move, notice, world behind, state of the plan behind).
        self._steps = []
        self._mark = None
        self.play = play
        self.world = self._ways.first()

    @property
    def run(self):
        """A new list of the moves that were done."""
        return [step[0] for step in self._steps]

    @property
    def row(self):
        """A new list of the notices of the run."""
        return [step[1] for step in self._steps if step[1] is not None]

    def moves(self):
        """The ascending list of the moves that can be done."""
        return list(self._on_from(self.world, self._state()))

    def do(self, move):
        """Does a move, and returns its notice or None."""
        step = self._step(self.world, self._state(), move)
        if step is None:
            raise NoMove(move)
        self._add([step])
        return step[1]

    def back(self):
        """Takes back the last move, and tells whether there was one."""
        if len(self._steps) == 0:
            return False
        self._steps.pop()
        self.world = self._steps[-1][2] if len(self._steps) > 0 else self._ways.first()
        return True

    def may_be(self):
        """The ascending list of all worlds that may be the case behind the row."""
        return worlds_behind(self.play, self.row)

    def knows(self, fact):
        """Whether a fact is so behind the row, as `knows` tells it."""
        if not is_fact(self.play, fact):
            raise BadFact(fact)
        return known_behind(self.play, self.row, fact)

    def trial(self, run):
        """The list of the notices, or None, of a list of moves from the present world on."""
        return [step[1] for step in self._ahead(run)]

    def __iadd__(self, run):
        self._add(self._ahead(run))
        return self

    def __len__(self):
        return len(self._steps)

    def __contains__(self, fact):
        return is_fact(self.play, fact) and is_so(self.play, self.world, fact)

    def __enter__(self):
        self._mark = Mark(list(self._steps), self.world, self._mark)
        return self

    def __exit__(self, kind, error, trace):
        self._steps = self._mark.steps
        self.world = self._mark.world
        self._mark = self._mark.outer

    def _state(self):
        """The number of the plan's state that the run has come to."""
        return self._steps[-1][3] if len(self._steps) > 0 else 0

    def _on_from(self, world, state):
        """The dict from the moves that can be done to the pairs (notice, world behind)."""
        found = self._ways.on_from(world)
        if self._plan is None:
            return found
        pick = self._plan[state][0]
        return {move: way for move, way in found.items() if not _is_other_pick(way[0], pick)}

    def _step(self, world, state, move):
        """The step of a move from a world, where the plan is in a state; None if it cannot be done."""
        found = self._on_from(world, state)
        if not is_way(found, move):
            return None
        noted, after = found[move]
        if self._plan is None or noted is None:
            return (move, noted, after, state)
        return (move, noted, after, self._plan[state][1][noted])

    def _ahead(self, run):
        """The list of the steps of a list of moves from the present world on; BadRun."""
        check_run(run)
        world, state = self.world, self._state()
        steps = []
        for index, move in enumerate(run):
            step = self._step(world, state, move)
            if step is None:
                raise BadRun(index)
            steps.append(step)
            _, _, world, state = step
        return steps

    def _add(self, steps):
        self._steps.extend(steps)
        if len(steps) > 0:
            self.world = steps[-1][2]


def tried(sitting, run):
    """The pair of the notices, or None, of a list of moves and of the world at its end; the sitting stays as it was."""
    check_run(run)
    found = []
    with sitting as same:
        for move in run:
            found.append(same.do(move))
        world = same.world
    return (found, world)


def _copied(state):
    """The pair of the told pick of a state of a plan, and of a new dict to the states behind it."""
    # Of needless keys, which may be of any kind and size, none is kept but such as look like notices.
    return (state[3], {noted: number for noted, number in state[4].items() if _is_like_notice(noted)})


def _is_like_notice(value):
    if not isinstance(value, tuple) or len(value) > LONGEST_NOTICE:
        return False
    return all([isinstance(part, (str, int)) for part in value])


def _is_other_pick(noted, pick):
    """Whether a notice is that of a pick of the own routine, of another block than this one."""
    return noted is not None and noted[0] == "pick" and noted[1] != pick
