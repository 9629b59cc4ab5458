"""Sights: what is known of a layout, and the layouts that fit, by their distance from another one."""

from crosshitch.basics import check_number, check_pieces, checked_partners, is_end, opens_in
from crosshitch.errors import Clash, InvalidLayout, InvalidNumber, InvalidOpens, InvalidSight, NotFitting
from crosshitch.numbering import nth_with
from crosshitch.strands import CLOSED, OPEN_FREE, OPEN_LAID, OPEN_TOLD, TWO_LAID, StrandCounts, Strands
from crosshitch.tallies import tally


def _check_opens(pieces, partners, opens):
    """Raise InvalidOpens unless the value is an ascending list of ends that are open in a table of partners."""
    if type(opens) is not list:
        raise InvalidOpens(None)
    ahead = -pieces - 1
    for index, end in enumerate(opens):
        if not is_end(pieces, end) or end <= ahead or partners[end]:
            raise InvalidOpens(index)
        ahead = end


def _what_may_be_sure(unknown, across):
    """Return what can be in common: tuples of a change (see strands), and the couplings or the open ends that it makes.

    Strands of one sort are as good as one another, and so are the ends of a free one. So what can be in common is what
    becomes of all of them in the same way. A told strand is never joined in all layouts: it might as well be open, and
    what it is joined to, too, and this would not change the score.
    """
    free, laid = [end for end in unknown if across[end]], [end for end in unknown if across[end] == 0]
    told = [end for end in unknown if across[end] is None]
    found = []
    if free:
        closed = [(end, across[end]) for end in free if end < across[end]]
        found.extend([(CLOSED, closed, []), (OPEN_FREE, [], free)])
    if laid:
        found.append((OPEN_LAID, [], laid))
    if told:
        found.append((OPEN_TOLD, [], told))
    if len(laid) == 2:
        found.append((TWO_LAID, [(laid[0], laid[1])], []))
    return found


class Sight:
    """Some couplings of a layout, and some ends that are open in it; nothing is known about its other ends."""

    def __init__(self, pieces, known, opens):
        check_pieces(pieces)
        partners = checked_partners(pieces, known)
        _check_opens(pieces, partners, opens)
        self._pieces = pieces
        self._known = list(known)
        self._opens = list(opens)
        told = set(opens)
        self._unknown = [end for end in opens_in(pieces, partners) if end not in told]

    @property
    def pieces(self):
        """The number of pieces."""
        return self._pieces

    @property
    def known(self):
        """The couplings that are known."""
        return list(self._known)

    @property
    def opens(self):
        """The ends that are known to be open."""
        return list(self._opens)

    def __contains__(self, layout):
        """Return whether any value is a layout that fits."""
        try:
            partners = checked_partners(self._pieces, layout)
        except InvalidLayout:
            return False
        coupled = all([partners[low] == high for low, high in self._known])
        return coupled and not any([partners[end] for end in self._opens])

    def __len__(self):
        """Return the number of the ends about which nothing is known."""
        return len(self._unknown)

    def __eq__(self, other):
        """Return whether any value is a sight of the same."""
        if not isinstance(other, Sight):
            return False
        return self._pieces == other._pieces and self._known == other._known and self._opens == other._opens

    def __add__(self, other):
        """Return the sight of all that is known by both."""
        if not isinstance(other, Sight) or self._pieces != other._pieces:
            raise InvalidSight("not a sight of as many pieces")
        known = sorted(set(self._known + other._known))
        opens = sorted(set(self._opens + other._opens))
        ends = [end for coupling in known for end in coupling] + opens
        if len(set(ends)) < len(ends):
            raise Clash("no layout fits both sights")
        return Sight(self._pieces, known, opens)

    def _strands(self, layout):
        """Return the strands of a layout and of all that is known; their score is what they have to add for 0 moves."""
        strands = Strands(checked_partners(self._pieces, layout), 2 * self._pieces)
        for low, high in self._known:
            strands.tell(low, high)
        for end in self._opens:
            strands.tell(end, 0)
        return strands

    def counts(self, layout):
        """Return how many layouts that fit have each distance from a layout, from 0 to the greatest one."""
        strands = self._strands(layout)
        numbers = tally(*strands.numbers)
        # Half of what is added to the score is as many moves less.
        numbers.extend([0] * (strands.score // 2 + 1 - len(numbers)))
        numbers.reverse()
        return numbers

    def fewest(self, layout):
        """Return the least distance from a layout, and a layout that fits with it."""
        strands = self._strands(layout)
        free, laid, _ = strands.numbers
        # The ends of each free strand are joined, so that it comes off as a ring component; all others are open.
        ends = [(end, strands.across[end]) for end in self._unknown if strands.across[end]]
        joined = [(low, high) for low, high in ends if low < high]
        return (strands.score // 2 - free - laid // 2, sorted(self._known + joined))

    def most(self, layout):
        """Return the greatest distance from a layout, and a layout that fits with it."""
        strands = self._strands(layout)
        # Two laid strands that are joined make no odd way; all others are open, and one laid strand may be left over.
        laid = [end for end in self._unknown if strands.across[end] == 0]
        return (strands.score // 2, sorted(self._known + list(zip(laid[::2], laid[1::2]))))

    def nth(self, layout, moves, index):
        """Return the layout with a number, from 0 on, of those that fit and have a distance, ascending by partners."""
        strands = self._strands(layout)
        check_number(moves)
        check_number(index)
        strands.score -= 2 * moves
        counts = StrandCounts(len(self._unknown))
        if index >= counts.with_score(strands.numbers, strands.score):
            raise InvalidNumber("not so many layouts that fit have this distance")
        # The 0 stands for the partner of an open end.
        unknown = sorted([0, *self._unknown])
        return sorted(self._known + nth_with(strands, counts, unknown, index))

    def sure(self, layout, moves):
        """Return the couplings and the open ends that all layouts that fit and have a distance have in common."""
        strands = self._strands(layout)
        check_number(moves)
        strands.score -= 2 * moves
        counts = StrandCounts(len(self._unknown))
        number = counts.with_score(strands.numbers, strands.score)
        if number == 0:
            raise NotFitting("no layout that fits has this distance")
        couplings, opens = list(self._known), list(self._opens)
        for change, joined, left in _what_may_be_sure(self._unknown, strands.across):
            numbers, score = strands.left_by(change)
            if counts.with_score(numbers, score) == number:
                couplings.extend(joined)
                opens.extend(left)
        return (sorted(couplings), sorted(opens))
