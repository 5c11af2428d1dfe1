"""Terms between two terms, with derivations on both sides."""

from fivefault.derivations import needed_steps
from fivefault.free import FreeOrder
from fivefault.terms import checked_term


def between(left, right):
    """Return a term between two terms with the derivations of (left, term) and (term, right), or None.

    It is None if left is not always below right. Raises InvalidTerm.
    """
    order = FreeOrder()
    if not order.holds(checked_term(left), checked_term(right)):
        return None
    middle = Middle(order)
    term, low, high = middle.of(left, right)
    return (term, needed_steps(middle.lows[:low + 1]), needed_steps(middle.highs[:high + 1]))


class Middle:
    """The terms between the pairs that have been asked for so far, with the steps below and above them.

    They follow the ways of an order, which end at a term that is a subterm of both sides. So a term between has only
    letters of both sides, its depth is less than both depths together, and its size is at most that of both multiplied.
    """

    def __init__(self, order):
        self.order = order
        self.lows = []
        self.highs = []
        self.found = {}

    def add_low(self, left, right, reason):
        """Add a step below a term between, and return its index."""
        self.lows.append((left, right, reason))
        return len(self.lows) - 1

    def add_high(self, left, right, reason):
        """Add a step above a term between, and return its index."""
        self.highs.append((left, right, reason))
        return len(self.highs) - 1

    def of(self, left, right):
        """Return a term between a pair that holds, and the indexes of the steps (left, term) and (term, right)."""
        pair = (left, right)
        if pair not in self.found:
            word, pairs = self.order.way_of(left, right)
            if word == "out":
                self.found[pair] = self.of_upper(left, right)
            elif word == "into":
                self.found[pair] = self.of_lower(left, right)
            elif word == "down":
                self.found[pair] = self.of_left_part(left, pairs[0])
            elif word == "up":
                self.found[pair] = self.of_right_part(right, pairs[0])
            else:
                self.found[pair] = self.of_ends(left, right, word)
        return self.found[pair]

    def of_ends(self, left, right, word):
        """Return it for equal terms, or for a term and a part of it."""
        if left[0] == "&" and right in left[1:]:
            return (right, self.add_low(left, right, (word,)), self.add_high(right, right, ("same",)))
        return (left, self.add_low(left, left, ("same",)), self.add_high(left, right, (word,)))

    def of_left_part(self, left, pair):
        """Return it by way of a part of the left term."""
        part, right = pair
        term, low, high = self.of(part, right)
        first = self.add_low(left, part, ("part",))
        return (term, self.add_low(left, term, ("chain", first, low)), high)

    def of_right_part(self, right, pair):
        """Return it by way of a part of the right term."""
        left, part = pair
        term, low, high = self.of(left, part)
        last = self.add_high(part, right, ("part",))
        return (term, low, self.add_high(term, right, ("chain", high, last)))

    def of_upper(self, left, right):
        """Return it by way of all parts of a left "|" term."""
        rows = [self.of(part, right) for part in left[1:]]
        terms, highs = different(rows, 2)
        if len(terms) == 1:
            return (terms[0], self.add_low(left, terms[0], ("out", tuple([row[1] for row in rows]))), highs[0])
        whole = ("|", *terms)
        joins = [self.add_low(term, whole, ("part",)) for term in terms]
        lows = []
        for part, row in zip(left[1:], rows):
            lows.append(self.add_low(part, whole, ("chain", row[1], joins[terms.index(row[0])])))
        low = self.add_low(left, whole, ("out", tuple(lows)))
        return (whole, low, self.add_high(whole, right, ("out", tuple(highs))))

    def of_lower(self, left, right):
        """Return it by way of all parts of a right "&" term."""
        rows = [self.of(left, part) for part in right[1:]]
        terms, lows = different(rows, 1)
        if len(terms) == 1:
            return (terms[0], lows[0], self.add_high(terms[0], right, ("into", tuple([row[2] for row in rows]))))
        whole = ("&", *terms)
        meets = [self.add_high(whole, term, ("part",)) for term in terms]
        highs = []
        for part, row in zip(right[1:], rows):
            highs.append(self.add_high(whole, part, ("chain", meets[terms.index(row[0])], row[2])))
        high = self.add_high(whole, right, ("into", tuple(highs)))
        return (whole, self.add_low(left, whole, ("into", tuple(lows))), high)


def different(rows, at):
    """Return the list of the different terms of rows, and for each one the item at an index of its first row."""
    terms = []
    items = []
    for row in rows:
        if row[0] not in terms:
            terms.append(row[0])
            items.append(row[at])
    return terms, items
