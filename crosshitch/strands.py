"""How many layouts there are of which a part is known, by their distance from a layout that is known as a whole.

Lay the layout and what is known of the other one over one another. What their couplings lead along is a strand if
something can still change there: it has two free ends, of which nothing is known in the other one, or it has one, while
its other outer end is open, either in the layout (the strand is laid) or in the other one (it is told).

The score of two layouts is twice the number of their ring components and the number of their odd ways; the distance is
the number of pieces, less half the score.

A table `across` tells for each free end the other end of its strand, if that one is free, too; 0 if the strand is laid;
None if it is told. So if nothing is known of the other layout, it is the table of partners.
"""

from crosshitch.basics import count_pairings, couplings_in
from crosshitch.few import MOST_FEW, key_of_few, number_of_few

# What can become of a free end, each told by what it takes from a key (see few). A free strand is joined to another one
# of any sort, or to its own other end; or strands without two free ends are joined; or the end of a strand is open.
JOINED = 1000
CLOSED = 1002
TWO_LAID = 200
TWO_TOLD = 20
LAID_AND_TOLD = 111
OPEN_FREE = 990
OPEN_LAID = 101
OPEN_TOLD = 10

# What each of these, in the same sequence, takes from the numbers of free, laid and told strands, and from what they
# add to the score.
TAKEN = {
    1000: (1, 0, 0, 0),
    1002: (1, 0, 0, 2),
    200: (0, 2, 0, 0),
    20: (0, 0, 2, 0),
    111: (0, 1, 1, 1),
    990: (1, 0, -1, 0),
    101: (0, 1, 0, 1),
    10: (0, 0, 1, 0),
}


def changes_of(across, end, partners):
    """Return what becomes of a free end with each one of some partners, 0 for an open end."""
    here = across[end]
    if here:
        return [CLOSED if partner == here else JOINED if partner else OPEN_FREE for partner in partners]
    alike, opened = (TWO_TOLD, OPEN_TOLD) if here is None else (TWO_LAID, OPEN_LAID)
    changes = []
    for partner in partners:
        if not partner:
            changes.append(opened)
        elif across[partner]:
            changes.append(JOINED)
        else:
            changes.append(alike if across[partner] == here else LAID_AND_TOLD)
    return changes


def tell_partner(across, end, partner):
    """Change a table as it becomes known that a free end has a partner, 0 for an open end."""
    here = across[end]
    there = across[partner] if partner else None
    if here:
        across[here] = there
    if there:
        across[there] = here


class Strands:
    """The strands of a layout and of one of which nothing is known at first, and then the partner of end after end."""

    def __init__(self, partners, score):
        self.across = list(partners)
        # How many of them are free, laid and told, and what they still add to the score.
        self.numbers = (couplings_in(partners), partners.count(0), 0)
        self.score = score

    def left_by(self, change):
        """Return what numbers and what score a change leaves."""
        free, laid, told = self.numbers
        less_free, less_laid, less_told, less_score = TAKEN[change]
        return (free - less_free, laid - less_laid, told - less_told), self.score - less_score

    def tell(self, end, partner):
        """Take it as known that a free end has a partner, 0 for an open end."""
        self.numbers, self.score = self.left_by(changes_of(self.across, end, [partner])[0])
        tell_partner(self.across, end, partner)

    def key(self):
        """Return the key of few strands (see few)."""
        return key_of_few(*self.numbers, self.score)


class StrandCounts:
    """The numbers of layouts by half of what their strands add to the score, rounded down.

    They are the digits of an integer to the base 2 ** bits, from 0 on, enough for so many unknown ends. (An odd number
    of laid strands adds odd numbers to the score, and an even number even ones.)
    """

    def __init__(self, ends):
        self._bits = count_pairings(ends).bit_length()
        # These integers by the number of told strands, then by that of free ones, then by that of laid ones.
        self._kept = []

    def with_score(self, numbers, score):
        """Return how many layouts there are for the numbers of free, laid and told strands, and one score."""
        free, laid, told = numbers
        if 2 * free + laid + told <= MOST_FEW:
            return number_of_few(free, laid, told, score)
        if score < 0:
            return 0
        if not self._has(free, laid, told):
            for fewer in range(told + 1):
                self._keep(free, laid, fewer)
        return self._kept[told][free][laid] >> self._bits * (score // 2) & (1 << self._bits) - 1

    def left_by(self, strands, change):
        """Return how many layouts a change leaves."""
        numbers, score = strands.left_by(change)
        return self.with_score(numbers, score)

    def _has(self, free, laid, told):
        """Return whether the numbers for so many strands are kept."""
        return told < len(self._kept) and free < len(self._kept[told]) and laid < len(self._kept[told][free])

    def _keep(self, free, laid, told):
        """Keep the numbers for so many told strands, and up to so many free and laid ones."""
        if told == len(self._kept):
            self._kept.append([])
        rows = self._kept[told]
        for number in range(free + 1):
            if number == len(rows):
                rows.append([self._without_laid(number, told)])
            row = rows[number]
            for many in range(len(row), laid + 1):
                # What becomes of the free end of a laid strand: it is open, or joined to a told one, and each time an
                # odd way is complete; or it is joined to another laid strand, or to an end of a free one.
                total = row[-1]
                if told > 0:
                    total += told * self._kept[told - 1][number][many - 1]
                if many & 1 == 0:
                    total <<= self._bits
                if many > 1:
                    total += (many - 1) * row[-2]
                if number > 0:
                    total += 2 * number * rows[number - 1][many]
                row.append(total)

    def _without_laid(self, free, told):
        """Return the numbers for so many free and told strands, without laid ones."""
        if told == 0:
            return self._with_free_alone(free)
        # The free end of a told strand is open, or it is joined to another told strand, or to an end of a free one.
        total = self._kept[told - 1][free][0]
        if told > 1:
            total += (told - 1) * self._kept[told - 2][free][0]
        if free > 0:
            total += 2 * free * self._kept[told][free - 1][0]
        return total

    def _with_free_alone(self, free):
        """Return the numbers for so many free strands."""
        if free == 0:
            return 1
        ahead = self._kept[0][free - 1][0]
        # One end of a strand is joined, or it is open, and the other end, too; or the other one is joined to another
        # strand. Then one strand less is left, and one of its ends is open, that is: not joined.
        total = self._joined(free) + ahead
        if free > 1:
            total += 2 * (free - 1) * (ahead - self._joined(free - 1))
        return total

    def _joined(self, free):
        """Return the numbers for so many free strands if one end is joined to its other end or to another strand."""
        fewer = self._kept[0][free - 1][0]
        return (fewer << self._bits) + 2 * (free - 1) * fewer
