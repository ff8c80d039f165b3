"""The worlds of a play, the moves in them, and runs."""

from onlyheard.errors import NoMove, NoWorld
from onlyheard.stands import HOME, is_stand
from onlyheard.ways import Ways, check_run, has_failed, is_way, steps_of, walked


def first_world(play):
    """The world that the play begins with."""
    return Ways(play).first()


def moves(play, world):
    """The ascending list of all moves in a world."""
    return list(ways_in(play, world))


def behind(play, world, move):
    """The world behind a move."""
    return way_of(play, world, move)[1]


def is_failed(play, world):
    """Whether a routine has failed."""
    check_world(play, world)
    return has_failed(world)


def is_stuck(play, world):
    """Whether nothing can be done, though no routine has failed and the own one is not home."""
    if len(ways_in(play, world)) > 0 or has_failed(world):
        return False
    return world[play.names().index(play.own)] != HOME


def led(play, run):
    """The list of the worlds that a run comes to."""
    check_run(run)
    ways = Ways(play)
    return [ways.first()] + [world for _, world in steps_of(ways, run)]


def worlds(play):
    """The list of all worlds that runs come to."""
    return walked(Ways(play))


def check_world(play, value):
    """Raises the NoWorld that is due."""
    names = play.names()
    if not isinstance(value, tuple) or len(value) != len(names):
        raise NoWorld(value)
    routines = play.routines
    if not all([is_stand(routines[name], stand) for name, stand in zip(names, value)]):
        raise NoWorld(value)


def ways_in(play, world):
    """The dict from the moves in a world to pairs (notice, world behind the move); NoWorld."""
    check_world(play, world)
    return Ways(play).on_from(world)


def way_of(play, world, move):
    """The pair (notice, world behind the move); NoWorld, NoMove."""
    found = ways_in(play, world)
    if not is_way(found, move):
        raise NoMove(move)
    return found[move]
