"""Layouts: their ends, and their rows and rings."""

from crosshitch.basics import all_ends, check_end, check_layout, check_pieces, coupling_of
from crosshitch.basics import first_wrong_coupling, is_end, partner_table
from crosshitch.errors import InvalidRings, InvalidRows


def is_layout(pieces, value):
    """Return whether any value is a layout."""
    check_pieces(pieces)
    return type(value) == list and first_wrong_coupling(pieces, value) is None


def count_layouts(pieces):
    """Return the number of all layouts."""
    check_pieces(pieces)
    fewer, count = 1, 1
    # A further end is open, or it is coupled with one of those that were there ahead of it.
    for ahead in range(1, 2 * pieces):
        fewer, count = count, count + ahead * fewer
    return count


def open_ends(pieces, layout):
    """Return the ascending list of the open ends."""
    check_pieces(pieces)
    check_layout(pieces, layout)
    partners = partner_table(layout)
    return [end for end in all_ends(pieces) if end not in partners]


def partner_of(pieces, layout, end):
    """Return the end with which an end is coupled, None for an open end."""
    check_pieces(pieces)
    check_layout(pieces, layout)
    check_end(pieces, end)
    return partner_table(layout).get(end)


def partners_of(pieces, layout):
    """Return the partners of all ends, from the least end on, with 0 for each open end."""
    check_pieces(pieces)
    check_layout(pieces, layout)
    partners = partner_table(layout)
    return [partners.get(end, 0) for end in all_ends(pieces)]


def _row_from(first, partners):
    """Return the reading of a row that begins with a number, whose other end is open."""
    row = [first]
    while row[-1] in partners:
        row.append(-partners[row[-1]])
    return row


def rows_of(pieces, layout):
    """Return the ascending list of the normal readings of all rows."""
    check_pieces(pieces)
    check_layout(pieces, layout)
    partners = partner_table(layout)
    starts = [number for number in all_ends(pieces) if -number not in partners]
    # Each row is read twice, from each of its open ends, and one of the two readings is normal.
    # The first numbers ascend, so the readings do.
    readings = [_row_from(number, partners) for number in starts]
    return [reading for reading in readings if min(reading, key=abs) > 0]


def _ring_from(first, partners):
    """Return the reading of a ring that begins with a number."""
    ring = [first]
    number = -partners[first]
    while number != first:
        ring.append(number)
        number = -partners[number]
    return ring


def rings_of(pieces, layout):
    """Return the ascending list of the normal readings of all rings."""
    rows = rows_of(pieces, layout)
    partners = partner_table(layout)
    seen = {abs(number) for row in rows for number in row}
    rings = []
    for piece in range(1, pieces + 1):
        if piece not in seen:
            ring = _ring_from(piece, partners)
            for number in ring:
                seen.add(abs(number))
            rings.append(ring)
    return rings


def _is_reading(pieces, value):
    """Return whether any value is a list of one or more numbers of pieces with signs."""
    if type(value) != list or len(value) == 0:
        return False
    return all([is_end(pieces, number) for number in value])


def _first_wrong_reading(pieces, readings, ahead):
    """Return the index of the first item that is no reading or has a piece again, also one ahead; None without one."""
    taken = {abs(number) for reading in ahead for number in reading}
    for index, reading in enumerate(readings):
        if not _is_reading(pieces, reading):
            return index
        for number in reading:
            if abs(number) in taken:
                return index
            taken.add(abs(number))
    return None


def _check_rows(pieces, rows):
    if type(rows) != list:
        raise InvalidRows(None)
    index = _first_wrong_reading(pieces, rows, [])
    if index is not None:
        raise InvalidRows(index)


def _check_rings(pieces, rows, rings):
    if type(rings) != list:
        raise InvalidRings(None)
    index = _first_wrong_reading(pieces, rings, rows)
    if index is not None:
        raise InvalidRings(index)


def _couplings_along(numbers):
    """Return the couplings of each number with the one behind it."""
    return [coupling_of(number, -behind) for number, behind in zip(numbers, numbers[1:])]


def layout_of(pieces, rows, rings):
    """Return the layout with these rows and rings; pieces that stand in none of them are rows by themselves."""
    check_pieces(pieces)
    _check_rows(pieces, rows)
    _check_rings(pieces, rows, rings)
    layout = []
    for row in rows:
        layout.extend(_couplings_along(row))
    for ring in rings:
        layout.extend(_couplings_along(ring + ring[:1]))
    return sorted(layout)
