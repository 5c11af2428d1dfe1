"""Boards: finite orders in which each two places have a low and an up."""

from fivefault.errors import InvalidBoard, InvalidLetter, InvalidPlace, InvalidReading, TooManyPlaces
from fivefault.terms import LETTERS, is_letter, letters


def are_square(rows, most):
    """Return whether rows are strings of the digits 0 and 1, as many as each one is long, but not too many."""
    if len(rows) < 1 or len(rows) > most:
        return False
    return all([isinstance(row, str) and len(row) == len(rows) and row.strip("01") == "" for row in rows])


def columns_of(rows):
    """Return the list of the columns of square rows, as strings."""
    return ["".join([row[at] for row in rows]) for at in range(len(rows))]


def masks_of(rows):
    """Return a number for each row: its binary digit y is the character y of the row."""
    return [int(row[::-1], 2) for row in rows]


def bound_table(masks):
    """Return a list of lists with the greatest place below (or the least place above) each two places.

    The masks say what is below (or above) each place. An item is None where there is no such place.
    """
    # All places below both are those below their greatest one, so its mask is common to both.
    places = {masks[at]: at for at in range(len(masks))}
    return [[places.get(one & other) for other in masks] for one in masks]


class Board:
    """A finite order with up to 60 places, in which each two places have a low and an up."""

    MAX_PLACES = 60

    def __init__(self, rows):
        """Make a board of rows in which the character y of the row x is 1 if x is below y. Raises InvalidBoard."""
        if not are_square(rows, Board.MAX_PLACES):
            raise InvalidBoard()
        self.lines = list(rows)
        self.above = masks_of(self.lines)
        self.below = masks_of(columns_of(self.lines))
        # Nothing but the place itself is both above and below it.
        if not all([self.above[at] & self.below[at] == 1 << at for at in range(len(self.lines))]):
            raise InvalidBoard()
        self.lows = bound_table(self.below)
        self.highs = bound_table(self.above)
        # Where x is below y, their low can only be x, so with all lows it is an order: all below x is below y.
        if any([None in row for row in [*self.lows, *self.highs]]):
            raise InvalidBoard()
        self.least = self.above.index(max(self.above))
        self.greatest = self.below.index(max(self.below))

    @classmethod
    def chain(cls, size):
        """Return the board with this number of places, each one below the next one. Raises InvalidBoard."""
        if size < 1 or size > cls.MAX_PLACES:
            raise InvalidBoard()
        return cls(["0" * at + "1" * (size - at) for at in range(size)])

    @classmethod
    def cube(cls, size):
        """Return the board of all numbers with this number of binary digits. Raises InvalidBoard."""
        if size < 0 or size > 5:
            raise InvalidBoard()
        many = 1 << size
        return cls(["".join(["1" if x & y == x else "0" for y in range(many)]) for x in range(many)])

    @staticmethod
    def fan(size):
        """Return the board of this number of places side by side, a least and a greatest one. Raises InvalidBoard."""
        if size < 1 or size > Board.MAX_PLACES - 2:
            raise InvalidBoard()
        middle = ["0" * at + "1" + "0" * (size - at) + "1" for at in range(1, size + 1)]
        return Board(["1" * (size + 2), *middle, "0" * (size + 1) + "1"])

    def rows(self):
        """Return the list of the strings."""
        return list(self.lines)

    @property
    def bottom(self):
        """The least place."""
        return self.least

    @property
    def top(self):
        """The greatest place."""
        return self.greatest

    def has_place(self, value):
        """Return whether a value is a place of the board."""
        return isinstance(value, int) and not isinstance(value, bool) and value >= 0 and value < len(self.lines)

    def check_places(self, places):
        """Return None if all values are places. Raises InvalidPlace for the first one that is not."""
        for place in places:
            if not self.has_place(place):
                raise InvalidPlace(place)

    def is_below(self, one, other):
        """Return whether one place is below another one. Raises InvalidPlace."""
        self.check_places([one, other])
        return self.lines[one][other] == "1"

    def low(self, *places):
        """Return the greatest place below all places, or the top without places. Raises InvalidPlace."""
        self.check_places(places)
        found = self.greatest
        for place in places:
            found = self.lows[found][place]
        return found

    def up(self, *places):
        """Return the least place above all places, or the bottom without places. Raises InvalidPlace."""
        self.check_places(places)
        found = self.least
        for place in places:
            found = self.highs[found][place]
        return found

    def check_reading(self, terms, reading):
        """Return None if a reading has a place for each letter of long terms.

        Raises InvalidTerm, then InvalidReading for the first letter, ascending.
        """
        used = [letters(term) for term in terms]
        for letter in LETTERS:
            if any([letter in row for row in used]) and not self.has_place(reading.get(letter)):
                raise InvalidReading(letter)

    def place_of(self, term, reading):
        """Return what value returns, for a term and a reading that are known to be right."""
        if is_letter(term):
            return reading[term]
        places = [self.place_of(part, reading) for part in term[1:]]
        return self.low(*places) if term[0] == "&" else self.up(*places)

    def value(self, term, reading):
        """Return the value of a long term. Raises InvalidTerm, then InvalidReading."""
        self.check_reading([term], reading)
        return self.place_of(term, reading)

    def keeps(self, left, right, reading):
        """Return whether a reading keeps a pair of long terms. Raises InvalidTerm, then InvalidReading."""
        self.check_reading([left, right], reading)
        return self.is_below(self.place_of(left, reading), self.place_of(right, reading))

    def spreads(self):
        """Return whether low(x, up(y, z)) = up(low(x, y), low(x, z)) for all places."""
        # A place is simple if the other places below it have a greatest one; each place is the up of the simple ones
        # below it. So the board spreads if and only if a simple place is below up(y, z) only where it is below y or z:
        # if the places that are not above it have a greatest one, too.
        masks = {mask: True for mask in self.below}
        whole = self.below[self.greatest]
        for at in range(len(self.below)):
            if (self.below[at] ^ 1 << at) in masks and (whole ^ self.above[at]) not in masks:
                return False
        return True

    def turned(self):
        """Return the board in which x is below y if y was below x."""
        return Board(columns_of(self.lines))

    def product(self, other):
        """Return the board of the pairs of places of two boards. Raises TooManyPlaces."""
        if len(self.lines) * len(other.lines) > Board.MAX_PLACES:
            raise TooManyPlaces(Board.MAX_PLACES)
        blank = "0" * len(other.lines)
        rows = []
        for line in self.lines:
            for inner in other.lines:
                rows.append("".join([inner if digit == "1" else blank for digit in line]))
        return Board(rows)

    def readings(self, *names):
        """Yield all readings of different letters; the last letter changes fastest. Raises InvalidLetter."""
        for at, name in enumerate(names):
            if not is_letter(name) or name in names[:at]:
                raise InvalidLetter(name)
        places = [0 for name in names]
        at = 0
        while at >= 0:
            yield {name: place for name, place in zip(names, places)}
            # The letters behind the last one that has places left begin anew.
            at = len(names) - 1
            while at >= 0 and places[at] == len(self.lines) - 1:
                places[at] = 0
                at = at - 1
            if at >= 0:
                places[at] = places[at] + 1

    def __eq__(self, other):
        return isinstance(other, Board) and self.lines == other.lines

    def __len__(self):
        return len(self.lines)

    def __repr__(self):
        return f"Board({len(self.lines)} places)"
