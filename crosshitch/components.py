"""Components of two layouts, told by the tables of partners of both (see basics)."""


def _way_from(end, table, behind):
    """Return the ends of a way from an outer end on; couplings of the first table and of the one behind take turns."""
    ends = [end]
    end = table[end]
    while end:
        ends.append(end)
        table, behind = behind, table
        end = table[end]
    return ends


def _ring_from(first, one, other):
    """Return the ends of a ring component from one of its ends on, along the coupling of `one`."""
    ends = [first, one[first]]
    end = other[ends[-1]]
    while end != first:
        ends.append(end)
        ends.append(one[end])
        end = other[ends[-1]]
    return ends


def _way(end, one, other):
    """Return the word and the ends of the way with an outer end, which is the lesser one if there are two."""
    if one[end]:
        ends = _way_from(end, one, other)
        word = "one"
    else:
        ends = _way_from(end, other, one)
        word = "other"
    if len(ends) & 1:
        return ("odd", ends[::-1] if one[end] else ends)
    return (word, ends)


def components(pieces, one, other):
    """Return the components as tuples (word, ends), the ways first; the ends of each as `components_of` gives them."""
    found = []
    seen = [False] * (2 * pieces + 1)
    # 0 is no end.
    seen[0] = True
    for end in range(-pieces, pieces + 1):
        if not (one[end] and other[end]) and not seen[end]:
            component = _way(end, one, other)
            found.append(component)
            for inner in component[1]:
                seen[inner] = True
    for end in range(-pieces, pieces + 1):
        if not seen[end]:
            ends = _ring_from(end, one, other)
            found.append(("ring", ends))
            for inner in ends:
                seen[inner] = True
    return found


def cost_of(component):
    """Return the cost of a component."""
    word, ends = component
    return len(ends) // 2 - 1 if word == "ring" else len(ends) // 2


def costs_with(parts, word):
    """Return the ascending list of the costs of those components that have a word."""
    return sorted([cost_of(part) for part in parts if part[0] == word])


def distance(pieces, one, other):
    """Return the number of the fewest moves."""
    return sum([cost_of(part) for part in components(pieces, one, other)])


def make_move(partners, move):
    """Change a table of partners as a move does."""
    cut, joined = move
    for low, high in cut:
        partners[low] = partners[high] = 0
    for low, high in joined:
        partners[low] = high
        partners[high] = low
