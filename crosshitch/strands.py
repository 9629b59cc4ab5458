"""How many layouts there are of which a part is known, by their distance from a layout that is known as a whole.

Lay the layout and what is known of the other one over one another. What their couplings lead along is a strand if
something can still change there: it has two free ends, of which nothing is known in the other one, or it has one, while
its other outer end is open, either in the layout (the strand is laid) or in the other one (it is told).

The score of two layouts is twice the number of their ring components and the number of their odd ways; the distance is
the number of pieces, less half the score.

A table `across` tells for each free end the other end of its strand, if that one is free, too; 0 if the strand is laid;
None if it is told. So if nothing is known of the other layout, it is the table of partners.
"""

from crosshitch.basics import count_pairings, couplings_in
from crosshitch.few import MOST_FEW, key_of_few, number_of_few

# The changes that are told by `changes_of`, and what each of them takes from the numbers of free, laid and told strands
# and from what they add to the score.
TAKEN = {
    1000: (1, 0, 0, 0), 1002: (1, 0, 0, 2), 990: (1, 0, -1, 0), 200: (0, 2, 0, 0), 111: (0, 1, 1, 1),
    101: (0, 1, 0, 1), 20: (0, 0, 2, 0), 10: (0, 0, 1, 0),
}


def changes_of(across, end, partners):
    """Return what a free end takes from a key (see few) with each one of some partners, 0 for an open end."""
    here = across[end]
    if here:
        # It is joined to its own other end, or to any other strand.
        return [1002 if partner == here else 1000 if partner else 990 for partner in partners]
    alike, opened = (20, 10) if here is None else (200, 101)
    return [
        opened if not partner else 1000 if across[partner] else alike if across[partner] == here else 111
        for partner in partners
    ]


def tell_partner(across, end, partner):
    """Change a table as it becomes known that a free end has a partner, 0 for an open end."""
    here = across[end]
    there = across[partner] if partner else None
    if here:
        across[here] = there
    if there:
        across[there] = here


class Strands:
    """The strands of a layout and of one of which nothing is known at first, and then the partner of end after end."""

    def __init__(self, partners, score):
        self.across = list(partners)
        # How many of them are free, laid and told, and what they still add to the score.
        self.numbers = (couplings_in(partners), partners.count(0), 0)
        self.score = score

    def left_by(self, change):
        """Return what numbers and what score a change leaves."""
        free, laid, told = self.numbers
        less_free, less_laid, less_told, less_score = TAKEN[change]
        return (free - less_free, laid - less_laid, told - less_told), self.score - less_score

    def tell(self, end, partner):
        """Take it as known that a free end has a partner, 0 for an open end."""
        self.numbers, self.score = self.left_by(changes_of(self.across, end, [partner])[0])
        tell_partner(self.across, end, partner)

    def key(self):
        """Return the key of few strands (see few)."""
        return key_of_few(*self.numbers, self.score)


class StrandCounts:
    """The numbers of layouts by what their strands add to the score.

    They are the digits of an integer to the base 2 ** bits, from the score 0 on, enough for so many unknown ends.
    """

    def __init__(self, ends):
        self._bits = count_pairings(ends).bit_length()
        self._kept = {}

    def with_score(self, numbers, score):
        """Return how many layouts there are for the numbers of free, laid and told strands, and one score."""
        free, laid, told = numbers
        if 2 * free + laid + told <= MOST_FEW:
            return number_of_few(free, laid, told, score)
        if score < 0:
            return 0
        return self._digits(free, laid, told) >> self._bits * score & (1 << self._bits) - 1

    def by_change(self, strands, changes):
        """Return a dict: how many layouts each one of some changes leaves."""
        numbers = {}
        for change in changes:
            if change not in numbers:
                left, score = strands.left_by(change)
                numbers[change] = self.with_score(left, score)
        return numbers

    def _digits(self, free, laid, told):
        """Return the numbers for so many strands with two free ends, so many laid ones and so many told ones."""
        key = (free, laid, told)
        if key not in self._kept:
            if 2 * free + laid + told <= MOST_FEW:
                self._kept[key] = self._of_few(free, laid, told)
            elif laid > 0:
                self._kept[key] = self._by_laid(free, laid, told)
            elif told > 0:
                self._kept[key] = self._by_told(free, told)
            else:
                self._kept[key] = self._by_free(free)
        return self._kept[key]

    def _of_few(self, free, laid, told):
        """Return the numbers for few strands."""
        digits = 0
        # An odd number of laid strands makes odd scores.
        for score in range(laid & 1, 2 * free + laid + 1, 2):
            digits += number_of_few(free, laid, told, score) << self._bits * score
        return digits

    def _by_laid(self, free, laid, told):
        """Return the numbers by what becomes of the free end of one of the laid strands."""
        # It is open, or joined to a told strand: each time an odd way is complete.
        total = self._digits(free, laid - 1, told) << self._bits
        if told > 0:
            total += told * self._digits(free, laid - 1, told - 1) << self._bits
        if laid > 1:
            total += (laid - 1) * self._digits(free, laid - 2, told)
        if free > 0:
            total += 2 * free * self._digits(free - 1, laid, told)
        return total

    def _by_told(self, free, told):
        """Return the numbers by what becomes of the free end of one of the told strands, without laid ones."""
        total = self._digits(free, 0, told - 1)
        if told > 1:
            total += (told - 1) * self._digits(free, 0, told - 2)
        if free > 0:
            total += 2 * free * self._digits(free - 1, 0, told)
        return total

    def _by_free(self, free):
        """Return the numbers by what becomes of a free end, where each strand has two of them."""
        # It is open, or joined to the other end of its strand, or to one of another strand.
        total = self._digits(free - 1, 0, 1)
        total += self._digits(free - 1, 0, 0) << 2 * self._bits
        total += 2 * (free - 1) * self._digits(free - 1, 0, 0)
        return total
