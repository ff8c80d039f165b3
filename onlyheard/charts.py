"""All worlds of a play by their numbers, and the ways between them."""

from onlyheard.aims import is_dealing
from onlyheard.forms import head_of, is_digit, is_path
from onlyheard.stands import HOME
from onlyheard.ways import Ways, has_failed, walked


class Chart:
    """The worlds that runs of a play come to; the number of a world is its index among them, ascending.

    Attributes: `own`, the own routine; `worlds`, their ascending list; `begin`, the number of the first
    world; `stands`, the own routine's stands by the numbers of the worlds; and `steps`, by these numbers
    too, the ascending lists of the triples (move, notice, number of the world behind the move).
    """

    def __init__(self, play):
        ways = Ways(play)
        self.worlds = sorted(walked(ways))
        self._numbers = {world: number for number, world in enumerate(self.worlds)}
        self.begin = self._numbers[ways.first()]
        self.steps = [self._steps_on(ways.on_from(world)) for world in self.worlds]
        self.own = play.routines[play.own]
        place = play.names().index(play.own)
        self.stands = [world[place] for world in self.worlds]
        self._failed = [has_failed(world) for world in self.worlds]
        self._kept = {}

    def _steps_on(self, on_from):
        return [(move, noted, self._numbers[world]) for move, (noted, world) in on_from.items()]

    def breaks(self, number, aim, left):
        """Whether a run breaks the aim that comes to this world with so many dealings left."""
        if self._failed[number]:
            return True
        if aim == "safe":
            return False
        if len(self.steps[number]) == 0 and self.stands[number] != HOME:
            return True
        return left == 0 and is_dealing(self.own, self.stands[number])

    def numbers_of(self, value):
        """The list of the numbers of some worlds; None if the value is not an ascending tuple of worlds."""
        if not isinstance(value, tuple) or not all([self._is_world(item) for item in value]):
            return None
        numbers = [self._numbers[world] for world in value]
        return numbers if numbers == sorted(set(numbers)) else None

    def _is_world(self, value):
        # The form is asked ahead of the look-up: there a flag would pass for an integer,
        # and what is nested would have to be hashed.
        return isinstance(value, tuple) and all([_is_like_stand(stand) for stand in value]) and value in self._numbers

    def worlds_of(self, numbers):
        """The tuple of the worlds with some numbers."""
        return tuple([self.worlds[number] for number in numbers])

    def spread(self, numbers):
        """The ascending tuple of all worlds that unseen moves lead to from some worlds, they among them."""
        listed = list(numbers)
        seen = set(listed)
        index = 0
        while index < len(listed):
            for _, noted, number in self.steps[listed[index]]:
                if noted is None and number not in seen:
                    seen.add(number)
                    listed.append(number)
            index += 1
        return tuple(sorted(seen))

    def spreads_behind(self, numbers):
        """The dict from the notices that can come next in some worlds to the spreads of the worlds behind.

        It is kept for a tuple of numbers, so nobody changes it.
        """
        if numbers not in self._kept:
            self._kept[numbers] = self._spreads_behind(numbers)
        return self._kept[numbers]

    def _spreads_behind(self, numbers):
        found = {}
        for number in numbers:
            for _, noted, after in self.steps[number]:
                if noted is not None:
                    found.setdefault(noted, []).append(after)
        return {noted: self.spread(found[noted]) for noted in found}


def _is_like_stand(value):
    """Whether the value has the form of a stand."""
    head = head_of(value)
    if head == "at":
        return len(value) == 3 and is_path(value[1]) and _are_digits(value[2])
    if head == "fail":
        return len(value) == 2 and is_path(value[1])
    return value == HOME


def _are_digits(value):
    return isinstance(value, tuple) and all([is_digit(item) for item in value])
