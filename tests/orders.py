"""Rows of boards for the tests, and what the document says of boards, written once more from the rows alone."""

import itertools
import random


def rows_of(items, below):
    """The rows of an order of items, in the order in which they are given."""
    return ["".join("1" if below(one, other) else "0" for other in items) for one in items]


def chain_rows(size):
    return rows_of(range(size), lambda one, other: one <= other)


def cube_rows(size):
    def below(one, other):
        return all(one // 2 ** at % 2 <= other // 2 ** at % 2 for at in range(size))

    return rows_of(range(2 ** size), below)


def fan_rows(size):
    return rows_of(range(size + 2), lambda one, other: one == other or one == 0 or other == size + 1)


def product_rows(one, other):
    pairs = list(itertools.product(range(len(one)), range(len(other))))
    return rows_of(pairs, lambda p, q: one[p[0]][q[0]] == "1" and other[p[1]][q[1]] == "1")


def mixed_rows(rows, source):
    """The rows with the places in another order."""
    order = list(range(len(rows)))
    source.shuffle(order)
    return ["".join(rows[x][y] for y in order) for x in order]


def family_rows(source, base, many):
    """The rows of a family of sets with all its intersections and the set of all, in any order."""
    family = {frozenset(range(base))}
    for _ in range(many):
        more = frozenset(at for at in range(base) if source.random() < 0.6)
        family |= {one & more for one in family}
        if len(family) > 24:
            break
    rows = sorted(family, key=sorted)
    source.shuffle(rows)
    return rows_of(rows, lambda one, other: one <= other)


# The ladder: 0 below 1 and 3, 1 below 2, all below 4.
LADDER = ["11111", "01101", "00101", "00011", "00001"]
FAN = fan_rows(3)
# A board with a ladder and a fan, and one in which three ladders meet.
WIDE = rows_of([frozenset(), frozenset("a"), frozenset("b"), frozenset("c"), frozenset("ad"), frozenset("abcde")],
               lambda one, other: one <= other)


def board_rows(seed=90):
    """Rows of boards of many kinds."""
    source = random.Random(seed)
    found = [chain_rows(size) for size in (1, 2, 3, 5)] + [cube_rows(size) for size in range(5)]
    found += [fan_rows(size) for size in (1, 2, 3, 4, 6)] + [LADDER, FAN, WIDE]
    found += [product_rows(chain_rows(2), LADDER), product_rows(FAN, chain_rows(3)), product_rows(LADDER, FAN)]
    found += [product_rows(chain_rows(3), chain_rows(4))]
    found += [mixed_rows(rows, source) for rows in list(found)]
    for _ in range(40):
        found.append(family_rows(source, source.randint(2, 7), source.randint(2, 8)))
    return found


def small_boards():
    """Rows of boards with few places, for going through all readings."""
    return [rows for rows in board_rows() if len(rows) <= 9]


def plain_below(rows, one, other):
    return rows[one][other] == "1"


def plain_low(rows, places):
    """[7]: the greatest of all places below these, or None if there is none."""
    under = [x for x in range(len(rows)) if all(plain_below(rows, x, place) for place in places)]
    found = [x for x in under if all(plain_below(rows, y, x) for y in under)]
    return found[0] if len(found) == 1 else None


def plain_up(rows, places):
    """[7]: the least of all places above these, or None if there is none."""
    over = [x for x in range(len(rows)) if all(plain_below(rows, place, x) for place in places)]
    found = [x for x in over if all(plain_below(rows, x, y) for y in over)]
    return found[0] if len(found) == 1 else None


def is_plain_board(rows):
    """[7] and the interface: whether rows are those of a board."""
    many = len(rows)
    if not 1 <= many <= 60 or any(len(row) != many or set(row) - {"0", "1"} for row in rows):
        return False
    places = range(many)
    if any(rows[x][x] != "1" for x in places):
        return False
    for x, y in itertools.product(places, repeat=2):
        if x != y and rows[x][y] == "1" and rows[y][x] == "1":
            return False
        if rows[x][y] == "1" and any(rows[y][z] == "1" and rows[x][z] != "1" for z in places):
            return False
    pairs = list(itertools.combinations(places, 2))
    return all(plain_low(rows, pair) is not None and plain_up(rows, pair) is not None for pair in pairs)


class Tables:
    """The lows and ups of each two places, reckoned once."""

    def __init__(self, rows):
        places = range(len(rows))
        self.rows = rows
        self.low = [[plain_low(rows, [x, y]) for y in places] for x in places]
        self.up = [[plain_up(rows, [x, y]) for y in places] for x in places]

    def spreads(self):
        """[7], by all triples."""
        places = range(len(self.rows))
        return all(self.low[x][self.up[y][z]] == self.up[self.low[x][y]][self.low[x][z]]
                   for x, y, z in itertools.product(places, repeat=3))

    def value(self, term, reading):
        """[8], part by part."""
        if isinstance(term, str):
            return reading[term]
        found = self.value(term[1], reading)
        table = self.low if term[0] == "&" else self.up
        for part in term[2:]:
            found = table[found][self.value(part, reading)]
        return found

    def keeps(self, left, right, reading):
        return self.rows[self.value(left, reading)][self.value(right, reading)] == "1"

    def is_fault(self, fault):
        """[14], sentence by sentence."""
        if type(fault) is not tuple or len(fault) != 2 or type(fault[1]) is not tuple or len(fault[1]) != 5:
            return False
        kind, places = fault
        if any(type(place) is not int or not 0 <= place < len(self.rows) for place in places):
            return False
        if len(set(places)) != 5:
            return False
        o, x, y, z, i = places
        low, up = self.low, self.up
        if kind == "ladder":
            return self.rows[x][y] == "1" and low[x][z] == low[y][z] == o and up[x][z] == up[y][z] == i
        if kind == "fan":
            return low[x][y] == low[x][z] == low[y][z] == o and up[x][y] == up[x][z] == up[y][z] == i
        return False

    def kinds(self):
        """The kinds of all faults, by going through all places."""
        places = range(len(self.rows))
        found = set()
        for x, y, z in itertools.permutations(places, 3):
            for kind in ("ladder", "fan"):
                if kind not in found and self.is_fault((kind, (self.low[x][z], x, y, z, self.up[x][z]))):
                    found.add(kind)
        return found
