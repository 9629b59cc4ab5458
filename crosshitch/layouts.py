"""Layouts: their ends, and their rows and rings."""

from crosshitch.basics import check_end, check_pieces, checked_partners, count_pairings, is_integer, opens_in
from crosshitch.basics import partners_or_wrong
from crosshitch.errors import InvalidRings, InvalidRows


def is_layout(pieces, value):
    """Return whether any value is a layout."""
    check_pieces(pieces)
    return type(value) is list and type(partners_or_wrong(pieces, value)) is list


def count_layouts(pieces):
    """Return the number of all layouts."""
    check_pieces(pieces)
    return count_pairings(2 * pieces)


def open_ends(pieces, layout):
    """Return the ascending list of the open ends."""
    check_pieces(pieces)
    return opens_in(pieces, checked_partners(pieces, layout))


def partner_of(pieces, layout, end):
    """Return the end with which an end is coupled, None for an open end."""
    check_pieces(pieces)
    partners = checked_partners(pieces, layout)
    check_end(pieces, end)
    return partners[end] if partners[end] else None


def partners_of(pieces, layout):
    """Return the partners of all ends, from the least end on, with 0 for each open end."""
    check_pieces(pieces)
    partners = checked_partners(pieces, layout)
    return partners[pieces + 1:] + partners[1:pieces + 1]


def readings_in(pieces, partners):
    """Return the normal readings of all rows and of all rings, both in the sequence of their least pieces."""
    rows, rings = [], []
    seen = [False] * (pieces + 1)
    for piece in range(1, pieces + 1):
        if seen[piece]:
            continue
        # All lesser pieces are read already, so this one is the least of its row or ring.
        reading = [piece]
        end = partners[piece]
        while end and end != -piece:
            reading.append(-end)
            seen[abs(end)] = True
            end = partners[-end]
        if end:
            rings.append(reading)
            continue
        ahead = []
        end = partners[-piece]
        while end:
            ahead.append(end)
            seen[abs(end)] = True
            end = partners[-end]
        rows.append(ahead[::-1] + reading if ahead else reading)
    return rows, rings


def rows_of(pieces, layout):
    """Return the ascending list of the normal readings of all rows."""
    check_pieces(pieces)
    rows, _ = readings_in(pieces, checked_partners(pieces, layout))
    return sorted(rows)


def rings_of(pieces, layout):
    """Return the ascending list of the normal readings of all rings."""
    check_pieces(pieces)
    # Each ring begins with its least piece, so they ascend already.
    _, rings = readings_in(pieces, checked_partners(pieces, layout))
    return rings


def _first_wrong_reading(pieces, readings, ahead):
    """Return the index of the first item that is no reading or has a piece again, also one ahead; None without one."""
    seen = {abs(number) for reading in ahead for number in reading}
    for index, reading in enumerate(readings):
        if type(reading) != list or len(reading) == 0:
            return index
        for number in reading:
            if type(number) != int and not is_integer(number):
                return index
            piece = abs(number)
            if piece == 0 or piece > pieces or piece in seen:
                return index
            seen.add(piece)
    return None


def _check_rows(pieces, rows):
    if type(rows) != list:
        raise InvalidRows(None)
    index = _first_wrong_reading(pieces, rows, [])
    if index is not None:
        raise InvalidRows(index)


def _check_rings(pieces, rows, rings):
    if type(rings) != list:
        raise InvalidRings(None)
    index = _first_wrong_reading(pieces, rings, rows)
    if index is not None:
        raise InvalidRings(index)


def couplings_along(numbers):
    """Return the couplings of each number with the one behind it."""
    pairs = zip(numbers, numbers[1:])
    return [(number, -behind) if number < -behind else (-behind, number) for number, behind in pairs]


def layout_of(pieces, rows, rings):
    """Return the layout with these rows and rings; pieces that stand in none of them are rows by themselves."""
    check_pieces(pieces)
    _check_rows(pieces, rows)
    _check_rings(pieces, rows, rings)
    layout = []
    for row in rows:
        if len(row) > 1:
            layout.extend(couplings_along(row))
    for ring in rings:
        layout.extend(couplings_along(ring + ring[:1]))
    return sorted(layout)
