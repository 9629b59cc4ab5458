"""Texts of layouts and of moves, written and read."""

from crosshitch.basics import check_pieces, checked_partners
from crosshitch.errors import InvalidText
from crosshitch.layouts import couplings_along, readings_in
from crosshitch.moves import checked_move, is_move_by_partners


def _words(reading):
    """Return the numbers of a reading with single spaces between."""
    return " ".join([str(number) for number in reading])


def show_layout(pieces, layout):
    """Return the text of a layout."""
    check_pieces(pieces)
    rows, rings = readings_in(pieces, checked_partners(pieces, layout))
    return ", ".join([_words(row) for row in sorted(rows)] + [f"({_words(ring)})" for ring in rings])


def show_move(pieces, layout, move):
    """Return the text of a move."""
    checked_move(pieces, layout, move)
    words = []
    for word, couplings in zip(("cut", "join"), move):
        if couplings:
            words.append(word)
            words.extend([f"{low}/{high}" for low, high in couplings])
    return " ".join(words)


def _ends_by_word(pieces):
    """Return a dict from the words for all ends, which are also the numbers of pieces with signs, to these."""
    return {str(end): end for end in range(-pieces, pieces + 1) if end != 0}


def _check_string(text):
    if not isinstance(text, str):
        raise InvalidText(None)


def read_layout(pieces, text):
    """Return the layout with a text."""
    check_pieces(pieces)
    _check_string(text)
    if text == "":
        return []
    ends = _ends_by_word(pieces)
    layout = []
    # A word that is no number of a piece becomes 0, which may never stand there.
    seen = {0}
    for part, told in enumerate(text.split(", ")):
        in_ring = told.startswith("(") and told.endswith(")")
        words = told[1:-1] if in_ring else told
        reading = [ends.get(word, 0) for word in words.split(" ")]
        for number in reading:
            if abs(number) in seen:
                raise InvalidText(part)
            seen.add(abs(number))
        layout.extend(couplings_along(reading + reading[:1] if in_ring else reading))
    return sorted(layout)


def _coupling_of_word(ends, word):
    """Return the coupling that a word stands for, None if it stands for none."""
    low, _, high = word.partition("/")
    if low in ends and high in ends and ends[low] < ends[high]:
        return (ends[low], ends[high])
    return None


def _couplings_by_part(ends, words):
    """Return a dict from the words `cut` and `join`, as far as they are there, to the couplings behind them."""
    found = {}
    couplings = []
    for number, word in enumerate(words):
        if word in ("cut", "join") and (number == 0 or word == "join" and "join" not in found and couplings):
            couplings = found[word] = []
            continue
        coupling = _coupling_of_word(ends, word)
        if number == 0 or coupling is None or len(couplings) == 2 or (couplings and coupling <= couplings[0]):
            raise InvalidText(number)
        couplings.append(coupling)
    return found


def read_move(pieces, layout, text):
    """Return the move with a text."""
    check_pieces(pieces)
    partners = checked_partners(pieces, layout)
    _check_string(text)
    words = text.split(" ")
    found = _couplings_by_part(_ends_by_word(pieces), words)
    move = (found.get("cut", []), found.get("join", []))
    if words[-1] in ("cut", "join") or not is_move_by_partners(pieces, partners, move):
        raise InvalidText(len(words))
    return move
