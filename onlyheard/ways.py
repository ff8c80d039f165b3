"""The ways on from the worlds of a play: what can be done there, what is noticed of it, and what lies behind it."""

from onlyheard.errors import BadRun, TooMany
from onlyheard.forms import is_integer
from onlyheard.stands import begun, choices, heard, listens, picked, tells, told

MOST_WORLDS = 400
LONGEST_RUN = 30000


class Ways:
    """The ways on from the worlds of a play; those of a world are worked out once."""

    def __init__(self, play):
        self._own = play.own
        self._over = play.over
        self._names = play.names()
        self._routines = play.routines
        self._kept = {}

    def first(self):
        """The first world."""
        return tuple([begun(self._routines[name]) for name in self._names])

    def on_from(self, world):
        """The dict from the moves in a world, ascending, to pairs (notice, world behind the move).

        It is kept, so nobody changes it.
        """
        if world not in self._kept:
            self._kept[world] = {} if has_failed(world) else self._found(dict(zip(self._names, world)))
        return self._kept[world]

    def _found(self, stands):
        """The same for the dict from the names of the routines to their stands."""
        found = {}
        for name in self._names:
            for k in range(choices(self._routines[name], stands[name])):
                found[("pick", name, k)] = self._picked(stands, name, k)
        for name in self._names:
            told_pair = tells(self._routines[name], stands[name])
            if told_pair is not None:
                for hearer in self._hearers(stands, name, told_pair[0]):
                    found[("tell", name, hearer, told_pair[0])] = self._told(stands, name, hearer, told_pair)
        return found

    def _hearers(self, stands, name, port):
        """The ascending list of the others that listen at the port."""
        others = [other for other in self._names if other != name]
        return [other for other in others if port in listens(self._routines[other], stands[other])]

    def _picked(self, stands, name, k):
        after = dict(stands)
        after[name] = picked(self._routines[name], stands[name], k)
        noted = ("pick", k) if name == self._own else None
        return (noted, self._world(after))

    def _told(self, stands, name, hearer, told_pair):
        port, digit = told_pair
        after = dict(stands)
        after[name] = told(self._routines[name], stands[name])
        after[hearer] = heard(self._routines[hearer], stands[hearer], port, digit)
        return (self._tell_notice(name, hearer, port, digit), self._world(after))

    def _tell_notice(self, name, hearer, port, digit):
        if name == self._own:
            return ("told", port)
        if hearer == self._own:
            return ("heard", port, digit)
        return ("over", port, digit) if port in self._over else None

    def _world(self, stands):
        return tuple([stands[name] for name in self._names])


def has_failed(world):
    """Whether one of the stands of a world is a fail."""
    return any([stand[0] == "fail" for stand in world])


def is_way(found, value):
    """Whether the value is one of the moves of what `on_from` returned."""
    # Asked ahead of the look-up: there a flag would pass for an integer,
    # and what is nested would have to be hashed.
    if not isinstance(value, tuple) or not all([isinstance(part, str) or is_integer(part) for part in value]):
        return False
    return value in found


def check_run(value):
    """Raises BadRun(-1) unless the value is a list that is not too long."""
    if not isinstance(value, list) or len(value) > LONGEST_RUN:
        raise BadRun(-1)


def steps_of(ways, run):
    """The list of the pairs (notice, world behind the move) of a list of moves of any length; BadRun."""
    world = ways.first()
    steps = []
    for index, move in enumerate(run):
        found = ways.on_from(world)
        if not is_way(found, move):
            raise BadRun(index)
        steps.append(found[move])
        world = found[move][1]
    return steps


def run_to(found, place):
    """A run that comes to a place.

    `found` is a dict from places to the pairs of the place ahead and the move from there, None for the first place.
    """
    run = []
    while found[place] is not None:
        place, move = found[place]
        run.append(move)
    return run[::-1]


def walked(ways):
    """The list of all worlds that runs come to, in the order of the walk; TooMany."""
    listed = [ways.first()]
    seen = {listed[0]}
    index = 0
    while index < len(listed):
        found = ways.on_from(listed[index])
        for _, world in found.values():
            if world not in seen:
                seen.add(world)
                listed.append(world)
        if len(listed) > MOST_WORLDS:
            raise TooMany(MOST_WORLDS)
        index += 1
    return listed
