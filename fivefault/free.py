"""What is below what without rules, and by which way."""


class FreeOrder:
    """The pairs of terms that have been decided so far, each one with the way that leads to it.

    A way is a pair of a word and a list of pairs of terms that are decided in the same manner:
    - "same": both terms are equal;
    - "part": one term is a part of the other one, as in a derivation;
    - "out", "into": the pairs of all parts of the left or of the right term, as in a derivation;
    - "down": the pair of one part of the left "&" term and the right term;
    - "up": the pair of the left term and one part of the right "|" term.
    """

    def __init__(self):
        self.ways = {}

    def holds(self, left, right):
        """Return whether a term is always below another one."""
        return self.way_of(left, right) is not None

    def way_of(self, left, right):
        """Return the way that leads to a pair, or None if left is not always below right."""
        pair = (left, right)
        if pair not in self.ways:
            self.ways[pair] = self.found_way(left, right)
        return self.ways[pair]

    def found_way(self, left, right):
        """Return what way_of returns, without looking it up."""
        if left == right:
            return ("same", [])
        lowered = left[1:] if left[0] == "&" else ()
        raised = right[1:] if right[0] == "|" else ()
        if right in lowered or left in raised:
            return ("part", [])
        # These two ways lose nothing, so no other one is tried behind them.
        if left[0] == "|":
            return self.way_of_all("out", [(part, right) for part in left[1:]])
        if right[0] == "&":
            return self.way_of_all("into", [(left, part) for part in right[1:]])
        for part in lowered:
            if self.holds(part, right):
                return ("down", [(part, right)])
        for part in raised:
            if self.holds(left, part):
                return ("up", [(left, part)])
        return None

    def way_of_all(self, word, pairs):
        """Return the way over all these pairs, or None if one of them does not hold."""
        for left, right in pairs:
            if not self.holds(left, right):
                return None
        return (word, pairs)
