"""The pairs of what may be the case and of the dealings that are left, for all that can be noticed."""

from onlyheard.aims import first_left, is_dealing, left_behind
from onlyheard.errors import TooMany

MOST_PAIRS = 2000


class Pairs:
    """The pairs of a set of worlds and of the dealings left, for the rows of all runs, each told by its index.

    Attributes: `chart`; `pairs`, the list of the pairs (numbers of the worlds, left), that of the empty
    row first; and by their indexes: `nexts`, the dicts from the notices that can come next to the indexes
    of the pairs behind, `earlier`, the lists of the pairs ahead, `stands` of the own routine, and `broken`,
    whether some run breaks the aim that ends in a world of the pair.
    """

    def __init__(self, chart, aim):
        self.chart = chart
        self.pairs = [(chart.spread([chart.begin]), first_left(aim))]
        self._indexes = {self.pairs[0]: 0}
        self.nexts = []
        self.earlier = [[]]
        while len(self.nexts) < len(self.pairs):
            self._go_on(len(self.nexts))
        self.stands = [chart.stands[numbers[0]] for numbers, _ in self.pairs]
        self.broken = [any([chart.breaks(number, aim, left) for number in numbers]) for numbers, left in self.pairs]

    def _go_on(self, index):
        """Lists the pairs that come next behind one; TooMany."""
        numbers, left = self.pairs[index]
        found = {}
        if not self._is_at_end(numbers, left):
            for noted, after in self.chart.spreads_behind(numbers).items():
                found[noted] = self._index((after, left_behind(left, noted)))
                self.earlier[found[noted]].append(index)
        self.nexts.append(found)

    def _is_at_end(self, numbers, left):
        return left == 0 and is_dealing(self.chart.own, self.chart.stands[numbers[0]])

    def _index(self, pair):
        """The index of a pair, which is listed if it is not yet."""
        if pair not in self._indexes:
            if len(self.pairs) == MOST_PAIRS:
                raise TooMany(MOST_PAIRS)
            self._indexes[pair] = len(self.pairs)
            self.pairs.append(pair)
            self.earlier.append([])
        return self._indexes[pair]
