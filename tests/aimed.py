"""What [19] to [25] say of a play, told once more, in other ways than the program tells it."""

from reference import names_in, stand_behind, unseen_from, value_of

ORDER = ["own", "lost", "left", "unseen", "noticed"]


def statement_at(block, path):
    """The statement at a path of a block."""
    statement = block[path[0]]
    if len(path) == 1:
        return statement
    number = path[1]
    if statement[0] == "wait":
        inner = statement[1][number][2]
    elif statement[0] == "open":
        inner = statement[1][number]
    else:
        inner = statement[(2 if statement[0] == "if" else 1) + number]
    return statement_at(inner, path[2:])


class Aimed:
    """A play with an aim; `known` is what Game.walk returned."""

    def __init__(self, blocks, own, known, aim):
        self.known, self.aim = known, aim
        self.block, self.place = blocks[own], sorted(blocks).index(own)
        self.first = next(iter(known))
        self.left = None if aim in ("safe", "going") else aim

    def head(self, stand):
        return statement_at(self.block, stand[1])[0] if stand[0] == "at" else stand[0]

    def deals(self, stand):
        return self.head(stand) in ("tell", "hear", "wait")

    def choices(self, stand):
        return len(statement_at(self.block, stand[1])[1]) if self.head(stand) == "open" else 0

    def is_bad(self, world):
        """Whether the world is failed, or stuck where that matters."""
        if any(stand[0] == "fail" for stand in world):
            return True
        return self.aim != "safe" and not self.known[world] and world[self.place] != ("home",)

    def is_out(self, stand, left):
        return left == 0 and left is not None and self.deals(stand)

    def fewer(self, left, noted):
        return left - 1 if left is not None and noted[0] in ("told", "heard") else left

    def ways(self, some):
        """The dict from notices to the sets behind them, unseen moves ahead and behind."""
        behind = {}
        for world in unseen_from(self.known, frozenset(some)):
            for noted, after in self.known[world].values():
                if noted is not None:
                    behind.setdefault(noted, set()).add(after)
        return {noted: unseen_from(self.known, frozenset(worlds)) for noted, worlds in behind.items()}

    # Which pairs there are, and which of them are lost ([24]).

    def pairs(self, most=10 ** 9):
        """The dict from the pairs to the dicts from notices to the pairs behind; None if there are more than told."""
        found, todo = {}, [(unseen_from(self.known, frozenset([self.first])), self.left)]
        while todo:
            pair = todo.pop()
            if pair in found:
                continue
            some, left = pair
            found[pair] = {}
            if len(found) > most:
                return None
            if not self.is_out(min(some)[self.place], left):
                found[pair] = {noted: (after, self.fewer(left, noted)) for noted, after in self.ways(some).items()}
            todo.extend(found[pair].values())
        return found

    def lost(self, pairs, picks=lambda path, k: True):
        """The set of the lost pairs, where some picks alone may be done, found pass by pass."""
        lost = set()
        while True:
            more = {pair for pair in pairs if pair not in lost and self.is_lost(pairs, pair, lost, picks)}
            if not more:
                return lost
            lost |= more

    def is_lost(self, pairs, pair, lost, picks):
        some, left = pair
        stand = min(some)[self.place]
        if any(self.is_bad(world) for world in some) or self.is_out(stand, left):
            return True
        if any(after in lost for noted, after in pairs[pair].items() if noted[0] != "pick"):
            return True
        if self.head(stand) != "open":
            return False
        wanted = [("pick", k) for k in range(self.choices(stand)) if picks(stand[1], k)]
        return all(pairs[pair][noted] in lost for noted in wanted)

    def is_planned(self, picks=lambda path, k: True):
        """Whether some plan holds that does some picks alone."""
        pairs = self.pairs()
        return next(iter(pairs)) not in self.lost(pairs, picks)

    # The judge of plans ([20], [21]); their form is right.

    def plan_fault(self, plan):
        if self.first not in plan[0][1] or plan[0][2] != self.left:
            return ("start",)
        faults = [fault for j in range(len(plan)) for fault in self.faults(plan, j)]
        return min(faults, key=lambda fault: (fault[1], ORDER.index(fault[0]), fault[2:]), default=None)

    def faults(self, plan, j):
        """All faults of a state, in any order."""
        stand, some, left, pick, nexts = plan[j]
        if self.is_out(stand, left):
            yield ("left", j)
        for world in some:
            if world[self.place] != stand:
                yield ("own", j, world)
            if self.is_bad(world):
                yield ("lost", j, world)
            for move, (noted, after) in self.known[world].items():
                if noted is None:
                    if after not in some:
                        yield ("unseen", j, world, move)
                elif noted[0] != "pick" or noted[1] == pick:
                    then = plan[nexts[noted]] if noted in nexts else (None, (), None)
                    if after not in then[1] or then[2] != self.fewer(left, noted):
                        yield ("noticed", j, world, move)

    # The judge of knots ([22], [23]); their form is right.

    def knot_fault(self, knot):
        if not set(knot[0][0]) <= unseen_from(self.known, {self.first}) or knot[0][1] != self.left:
            return ("start",)
        for j, (some, left, why) in enumerate(knot):
            fault = self.lost_fault(some, left) if why[0] == "lost" else self.part_fault(knot, j)
            if fault is not None:
                return (fault[0], j, *fault[1:])
        return None

    def lost_fault(self, some, left):
        spread = unseen_from(self.known, set(some))
        if any(self.is_bad(world) or self.is_out(world[self.place], left) for world in spread):
            return None
        return ("lost",)

    def part_fault(self, knot, j):
        some, left, why = knot[j]
        if why[0] == "open":
            if not why[1] or any(self.choices(world[self.place]) != len(why[1]) for world in some):
                return ("line",)
            behind = [(("pick", k), part) for k, part in enumerate(why[1])]
        else:
            behind = [why[1:]]
        if min(part for _, part in behind) <= j:
            return ("later",)
        if any(knot[part][1] != self.fewer(left, noted) for noted, part in behind):
            return ("left",)
        ways = self.ways(some)
        wrong = [world for noted, part in behind for world in knot[part][0] if world not in ways.get(noted, ())]
        return ("world", wrong[0]) if wrong else None


# The routine of a plan ([25]).


def view(block, stand):
    """What others can tell of a stand: that it is home, what it tells, or where it listens; None at an open line."""
    if stand[0] != "at":
        return stand
    statement = statement_at(block, stand[1])
    if statement[0] == "open":
        return None
    if statement[0] == "tell":
        held = dict(zip(sorted(names_in(block)), stand[2]))
        return ("tell", statement[1], value_of(statement[2], held))
    return ("hear", sorted(row[0] for row in statement[1]) if statement[0] == "wait" else [statement[1]])


class Planned:
    """The runs of a play, nothing overheard, in which the own routine picks by a plan, as far as others tell them."""

    def __init__(self, blocks, own, known, plan):
        self.block, self.place = blocks[own], sorted(blocks).index(own)
        self.known, self.plan = known, plan
        self.first = (next(iter(known)), 0)

    def on_from(self, place):
        """The pairs (notice, place behind it) of a place, the pair of a world and the state; None for unseen moves."""
        world, j = place
        found = []
        for noted, after in self.known[world].values():
            if noted is not None and noted[0] == "pick":
                if noted[1] == self.plan[j][3]:
                    found.append((None, (after, self.plan[j][4][noted])))
            else:
                found.append((noted, (after, j if noted is None else self.plan[j][4][noted])))
        return found

    def view(self, place):
        return view(self.block, place[0][self.place])


class Alone(Planned):
    """The runs of a play in which the own routine has no open lines."""

    def on_from(self, place):
        return [(noted, (after, 0)) for noted, after in self.known[place[0]].values()]


def deals_alike(one, other):
    """Whether the rows of "told" and "heard" are the same in both, and what others can tell behind them."""
    todo = [(closed(one, {one.first}), closed(other, {other.first}))]
    seen = set()
    while todo:
        pair = todo.pop()
        if pair in seen:
            continue
        seen.add(pair)
        views = [[side.view(place) for place in some if side.view(place) is not None]
                 for side, some in zip((one, other), pair)]
        if not views[0] or not views[1] or any(look != views[0][0] for look in views[0] + views[1]):
            return False
        nexts = [behind(side, some) for side, some in zip((one, other), pair)]
        if set(nexts[0]) != set(nexts[1]):
            return False
        todo.extend((nexts[0][noted], nexts[1][noted]) for noted in nexts[0])
    return True


def closed(side, some):
    todo, found = list(some), set(some)
    while todo:
        for noted, after in side.on_from(todo.pop()):
            if noted is None and after not in found:
                found.add(after)
                todo.append(after)
    return frozenset(found)


def behind(side, some):
    found = {}
    for place in some:
        for noted, after in side.on_from(place):
            if noted is not None:
                found.setdefault(noted, set()).add(after)
    return {noted: closed(side, places) for noted, places in found.items()}


def longest_way(block, digits=range(10)):
    """The most statements that a routine, once begun, does up to a stand or from one stand to the next one."""
    most, todo, seen = 0, [()], set()
    while todo:
        deeds = todo.pop()
        done = []
        stand, statement = stand_behind(block, deeds, done)
        most = max(most, len(done))
        if stand in seen or stand[0] != "at":
            continue
        seen.add(stand)
        if statement[0] == "tell":
            todo.append(deeds + (None,))
        elif statement[0] == "open":
            todo.extend(deeds + (k,) for k, _ in enumerate(statement[1]))
        else:
            ports = [statement[1]] if statement[0] == "hear" else [row[0] for row in statement[1]]
            todo.extend(deeds + ((port, digit),) for port in ports for digit in digits)
    return most
