"""All layouts of a few pieces and all moves between them: what is told of two layouts, found move by move."""

import collections
import functools
import itertools
import math

from tests.helpers import all_ends, all_layouts, moves_by_forms


class Graph:
    """All layouts of some pieces, as numbers in ascending sequence, and what moves lead from which to which."""

    def __init__(self, pieces):
        self.pieces = pieces
        self.layouts = all_layouts(pieces)
        self.numbers = {tuple(layout): number for number, layout in enumerate(self.layouts)}
        self.steps = [[] for _ in self.layouts]
        for number, layout in enumerate(self.layouts):
            for cut, joined in moves_by_forms(pieces, layout):
                after = sorted((set(layout) - set(cut)) | set(joined))
                self.steps[number].append(((cut, joined), self.numbers[tuple(after)]))
        self.distances = [self._distances_from(number) for number in range(len(self.layouts))]
        self.counts = [self._counts_from(number) for number in range(len(self.layouts))]

    def _distances_from(self, first):
        distances = {first: 0}
        queue = collections.deque([first])
        while queue:
            number = queue.popleft()
            for _, after in self.steps[number]:
                if after not in distances:
                    distances[after] = distances[number] + 1
                    queue.append(after)
        return [distances[number] for number in range(len(self.layouts))]

    def _counts_from(self, first):
        """How many shortest lists lead from a layout to each one."""
        distances = self.distances[first]
        counts = [0] * len(self.layouts)
        counts[first] = 1
        for number in sorted(range(len(self.layouts)), key=distances.__getitem__):
            for _, after in self.steps[number]:
                if distances[after] == distances[number] + 1:
                    counts[after] += counts[number]
        return counts

    def good(self, one, other):
        """The good moves with the layouts that they make, in ascending sequence of the moves."""
        return [(move, after) for move, after in self.steps[one]
                if self.distances[after][other] == self.distances[one][other] - 1]

    def shortest_lists(self, one, other):
        """All shortest lists, in ascending sequence."""
        if one == other:
            return [[]]
        return [[move, *behind] for move, after in self.good(one, other)
                for behind in self.shortest_lists(after, other)]

    def is_between(self, one, other, third):
        return self.distances[one][third] + self.distances[third][other] == self.distances[one][other]

    def between(self, one, other):
        return [third for third in range(len(self.layouts)) if self.is_between(one, other, third)]


@functools.lru_cache(maxsize=None)
def graph_of(pieces):
    return Graph(pieces)
