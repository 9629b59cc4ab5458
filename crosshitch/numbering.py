"""The numbers of layouts of which a part is known, ascending by their partners (see strands and few).

`unknown` is the ascending list of the ends of which nothing is known, with 0 in its place: it stands for the partner of
an open end. When the least of these ends is taken out, the list tells which partners it may get, in their sequence.

The two functions for few strands do by themselves what `changes_of` and `tell_partner` do: to call these for each end
would take longer than all the rest.
"""

from crosshitch.few import MOST_FEW, NUMBERS
from crosshitch.strands import CLOSED, JOINED, LAID_AND_TOLD, OPEN_FREE, OPEN_LAID, OPEN_TOLD, TWO_LAID, TWO_TOLD
from crosshitch.strands import changes_of


def nth_of_few(across, key, unknown, index):
    """Return the couplings of the unknown ends in the layout with a number, if there are few strands."""
    couplings = []
    while key:
        end = unknown[0] or unknown[1]
        unknown.remove(end)
        here = across[end]
        alike, opened = (TWO_TOLD, OPEN_TOLD) if here is None else (TWO_LAID, OPEN_LAID)
        for partner in unknown:
            there = across[partner]
            if not partner:
                change = OPEN_FREE if here else opened
            elif here or there:
                change = CLOSED if partner == here else JOINED
            else:
                change = alike if here == there else LAID_AND_TOLD
            number = NUMBERS.get(key - change, 0)
            if index < number:
                break
            index -= number
        key -= change
        if partner:
            unknown.remove(partner)
            couplings.append((end, partner))
            if there:
                across[there] = here
        else:
            there = None
        if here:
            across[here] = there
    return couplings


def index_of_few(across, key, unknown, partners):
    """Return the number of a layout, by its table of partners, if there are few strands."""
    index = 0
    number = NUMBERS[key]
    # Where one layout is left, none is ahead of it.
    while number > 1:
        end = unknown[0] or unknown[1]
        unknown.remove(end)
        here, found = across[end], partners[end]
        alike, opened = (TWO_TOLD, OPEN_TOLD) if here is None else (TWO_LAID, OPEN_LAID)
        for partner in unknown:
            there = across[partner]
            if not partner:
                change = OPEN_FREE if here else opened
            elif here or there:
                change = CLOSED if partner == here else JOINED
            else:
                change = alike if here == there else LAID_AND_TOLD
            number = NUMBERS.get(key - change, 0)
            if partner == found:
                break
            index += number
        key -= change
        if partner:
            unknown.remove(partner)
            if there:
                across[there] = here
        else:
            there = None
        if here:
            across[here] = there
    return index


def nth_with(strands, counts, unknown, index):
    """Return the couplings of the unknown ends in the layout with a number; the strands and the list are changed."""
    couplings = []
    while len(unknown) > MOST_FEW + 1:
        end = unknown[0] or unknown[1]
        unknown.remove(end)
        numbers = {}
        for partner, change in zip(unknown, changes_of(strands.across, end, unknown)):
            if change not in numbers:
                numbers[change] = counts.left_by(strands, change)
            if index < numbers[change]:
                break
            index -= numbers[change]
        strands.tell(end, partner)
        if partner:
            unknown.remove(partner)
            couplings.append((end, partner))
    return couplings + nth_of_few(strands.across, strands.key(), unknown, index)


def index_with(strands, counts, unknown, partners):
    """Return the number of a layout, by its table of partners; the strands and the list are changed."""
    index = 0
    while len(unknown) > MOST_FEW + 1:
        end = unknown[0] or unknown[1]
        unknown.remove(end)
        partner = partners[end]
        changes = changes_of(strands.across, end, unknown[:unknown.index(partner)])
        for change in sorted(set(changes)):
            index += changes.count(change) * counts.left_by(strands, change)
        strands.tell(end, partner)
        if partner:
            unknown.remove(partner)
    return index + index_of_few(strands.across, strands.key(), unknown, partners)
