"""How many layouts there are of which a part is known, by their distance from a layout that is known as a whole.

Lay the layout and what is known of the other one over one another. What their couplings lead along is a strand if
something can still change there: it has two free ends, of which nothing is known in the other one, or it has one, while
its other outer end is open, either in the layout (the strand is laid) or in the other one (it is told).

The score of two layouts is twice the number of their ring components and the number of their odd ways; the distance is
the number of pieces, less half the score.
"""


class StrandCounts:
    """The numbers of layouts by what their strands add to the score.

    They are the digits of an integer to the base 2 ** bits, from the score 0 on.
    """

    def __init__(self, bits):
        self._bits = bits
        self._kept = {(0, 0, 0): 1}

    def digits(self, free, laid, told):
        """Return the numbers for so many strands with two free ends, so many laid ones and so many told ones."""
        key = (free, laid, told)
        if key not in self._kept:
            if laid > 0:
                self._kept[key] = self._by_laid(free, laid, told)
            elif told > 0:
                self._kept[key] = self._by_told(free, told)
            else:
                self._kept[key] = self._by_free(free)
        return self._kept[key]

    def with_score(self, strands, score):
        """Return the number for strands (a tuple of the three numbers) and one score."""
        if score < 0:
            return 0
        return self.digits(*strands) >> self._bits * score & (1 << self._bits) - 1

    def _by_laid(self, free, laid, told):
        """Return the numbers by what becomes of the free end of one of the laid strands."""
        # It is open, or joined to a told strand: each time an odd way is complete.
        total = self.digits(free, laid - 1, told) << self._bits
        if told > 0:
            total += told * self.digits(free, laid - 1, told - 1) << self._bits
        if laid > 1:
            total += (laid - 1) * self.digits(free, laid - 2, told)
        if free > 0:
            total += 2 * free * self.digits(free - 1, laid, told)
        return total

    def _by_told(self, free, told):
        """Return the numbers by what becomes of the free end of one of the told strands, without laid ones."""
        total = self.digits(free, 0, told - 1)
        if told > 1:
            total += (told - 1) * self.digits(free, 0, told - 2)
        if free > 0:
            total += 2 * free * self.digits(free - 1, 0, told)
        return total

    def _by_free(self, free):
        """Return the numbers by what becomes of a free end, where each strand has two of them."""
        # It is open, or joined to the other end of its strand, or to one of another strand.
        total = self.digits(free - 1, 0, 1)
        total += self.digits(free - 1, 0, 0) << 2 * self._bits
        total += 2 * (free - 1) * self.digits(free - 1, 0, 0)
        return total


# What becomes of the numbers of free, laid and told strands, and of the score, if strands of two sorts are joined.
JOINED = {
    ("free", "free"): (-1, 0, 0, 0),
    ("free", "laid"): (-1, 0, 0, 0),
    ("free", "told"): (-1, 0, 0, 0),
    ("laid", "laid"): (0, -2, 0, 0),
    ("laid", "told"): (0, -1, -1, 1),
    ("told", "told"): (0, 0, -2, 0),
}
# The same if both ends of one strand are joined, and if an end of a strand is told to be open.
CLOSED = (-1, 0, 0, 2)
OPENED = {"free": (-1, 0, 1, 0), "laid": (0, -1, 0, 1), "told": (0, 0, -1, 0)}


class Strands:
    """The strands of a layout and of one of which nothing is known at first, and then the partner of end after end.

    Of this other layout the score is known, too: `counts` tells how many such layouts there are.
    """

    def __init__(self, counts, partners, score):
        self._counts = counts
        # For each end of which nothing is known: the other end of its strand, if that one is free, too; 0 if the strand
        # is laid; None if it is told. So at first this is the table of partners.
        self._across = list(partners)
        opened = partners.count(0)
        self._numbers = ((len(partners) - 1 - opened) // 2, opened, 0)
        self._score = score

    def _sort_of(self, end):
        """Return the sort of the strand with a free end."""
        if self._across[end] is None:
            return "told"
        return "free" if self._across[end] else "laid"

    def _after(self, end, partner):
        """Return the numbers of strands and the score that are left if a free end has a partner, 0 if it is open."""
        if partner == 0:
            change = OPENED[self._sort_of(end)]
        elif self._across[end] == partner:
            change = CLOSED
        else:
            one, other = sorted([self._sort_of(end), self._sort_of(partner)])
            change = JOINED[one, other]
        free, laid, told = self._numbers
        return (free + change[0], laid + change[1], told + change[2]), self._score - change[3]

    def how_many(self):
        """Return how many layouts there are with all that is known."""
        return self._counts.with_score(self._numbers, self._score)

    def how_many_with(self, end, partner):
        """Return how many of these layouts there are in which a free end has a partner, 0 for an open end."""
        numbers, score = self._after(end, partner)
        return self._counts.with_score(numbers, score)

    def tell(self, end, partner):
        """Take it as known that a free end has a partner, 0 for an open end."""
        self._numbers, self._score = self._after(end, partner)
        here = self._across[end]
        there = self._across[partner] if partner != 0 else None
        if here:
            self._across[here] = there
        if there:
            self._across[there] = here
