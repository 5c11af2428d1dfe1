"""Faults: the five places by which a board does not spread."""

from fivefault.masks import first_in, indexes_in


def find_fault(board):
    """Return a fault of a board, or None if it spreads; a fan only if there is no ladder."""
    if board.spreads():
        return None
    uppers = covers_of(board.above, board.below)
    found = find_ladder(uppers, board.above, board.below, board.highs)
    if found is not None:
        return ("ladder", found)
    # The same for the turned board, in which a ladder stands upside down.
    found = find_ladder(covers_of(board.below, board.above), board.below, board.above, board.lows)
    if found is not None:
        i, y, x, z, o = found
        return ("ladder", (o, x, y, z, i))
    return ("fan", find_fan(uppers, board.below, board.highs))


def covers_of(above, below):
    """Return a mask for each place: its binary digits say which places stand right above it, with nothing between."""
    bits = [1 << at for at in range(len(above))]
    covers = []
    for at, mask in enumerate(above):
        higher = mask ^ bits[at]
        covers.append(sum([bit for bit, under in zip(bits, below) if higher & under == bit]))
    return covers


def find_ladder(covers, above, below, highs):
    """Return the places (o, x, y, z, i) of a ladder with x and z right above o, or None if there is none.

    Two places right above o have the low o. If i is their up and y stands between x and i, the low of y and z can only
    be o, and their up only i. If nothing ever stands between, on the board and on the turned board, there is no ladder.
    """
    for o, mask in enumerate(covers):
        sides = indexes_in(mask)
        for x in sides:
            for z in sides:
                i = highs[x][z]
                if not covers[x] >> i & 1 and x != z:
                    return (o, x, first_in(above[x] & below[i] ^ (1 << x | 1 << i)), z, i)
    return None


def find_fan(covers, below, highs):
    """Return the places (o, x, y, z, i) of a fan with x, y and z right above o, or None if there is none.

    A board without ladders that does not spread has such a fan. On it, each third place z right above o that is below
    the up of x and y has the same up with both.
    """
    for o, mask in enumerate(covers):
        sides = indexes_in(mask)
        for x in sides:
            for y in sides:
                i = highs[x][y]
                rest = mask & below[i] ^ (1 << x | 1 << y)
                if rest > 0 and x != y:
                    return (o, x, y, first_in(rest), i)
    return None


def is_fault(board, fault):
    """Return whether a value is a fault of a board."""
    if not isinstance(fault, tuple) or len(fault) != 2:
        return False
    kind, places = fault
    if not are_five_places(board, places):
        return False
    o, x, y, z, i = places
    if kind == "ladder":
        return board.is_below(x, y) and are_bound(board, [(x, z), (y, z)], o, i)
    return kind == "fan" and are_bound(board, [(x, y), (x, z), (y, z)], o, i)


def are_five_places(board, value):
    """Return whether a value is a tuple of five different places of a board."""
    if not isinstance(value, tuple) or len(value) != 5:
        return False
    return all([board.has_place(place) for place in value]) and len(set(value)) == 5


def are_bound(board, pairs, low, up):
    """Return whether all pairs of places have this low and this up."""
    return all([(board.low(*pair), board.up(*pair)) == (low, up) for pair in pairs])
