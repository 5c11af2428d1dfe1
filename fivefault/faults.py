"""Faults: the five places by which a board does not spread."""


def find_fault(board):
    """Return a fault of a board, or None if it spreads; a fan only if there is no ladder."""
    bounds = bound_pairs(board)
    ladder = find_ladder(board.rows(), bounds)
    return find_fan(bounds) if ladder is None else ladder


def bound_pairs(board):
    """Return a list of lists with the pair (low, up) of each two places."""
    many = len(board)
    return [[(board.low(one, other), board.up(one, other)) for other in range(many)] for one in range(many)]


def find_ladder(rows, bounds):
    """Return a ladder, or None. Five places that are bound in this way are different if x and y are."""
    for z, row in enumerate(bounds):
        for x in range(len(row)):
            for y in range(len(row)):
                if rows[x][y] == "1" and row[x] == row[y] and x != y:
                    return ("ladder", (row[x][0], x, y, z, row[x][1]))
    return None


def find_fan(bounds):
    """Return a fan, or None. Five places that are bound in this way are different if x, y and z are."""
    for x, row in enumerate(bounds):
        for y in range(x):
            for z in range(y):
                if row[y] == row[z] and row[y] == bounds[y][z]:
                    return ("fan", (row[y][0], x, y, z, row[y][1]))
    return None


def is_fault(board, fault):
    """Return whether a value is a fault of a board."""
    if not isinstance(fault, tuple) or len(fault) != 2:
        return False
    kind, places = fault
    if not are_five_places(board, places):
        return False
    o, x, y, z, i = places
    if kind == "ladder":
        return board.is_below(x, y) and are_bound(board, [(x, z), (y, z)], o, i)
    return kind == "fan" and are_bound(board, [(x, y), (x, z), (y, z)], o, i)


def are_five_places(board, value):
    """Return whether a value is a tuple of five different places of a board."""
    if not isinstance(value, tuple) or len(value) != 5:
        return False
    return all([board.has_place(place) for place in value]) and len(set(value)) == 5


def are_bound(board, pairs, low, up):
    """Return whether all pairs of places have this low and this up."""
    return all([(board.low(*pair), board.up(*pair)) == (low, up) for pair in pairs])
