"""What can be derived from rules within a vocabulary."""

from fivefault.masks import indexes_in, mask_of


class Closure:
    """All pairs of terms of a vocabulary that can be derived from rules, each one with a reason.

    A pair is a pair of indexes of the vocabulary. Each one is noted once, behind the pairs that its reason names by
    their numbers. Masks say which terms are known to be above and below each term.
    """

    def __init__(self, rules, terms):
        """Note all pairs. The terms are a vocabulary of the rules."""
        self.terms = list(terms)
        self.places = {self.terms[at]: at for at in range(len(self.terms))}
        self.pairs = []
        self.reasons = []
        self.numbers = {}
        self.overs = [0 for term in self.terms]
        self.unders = [0 for term in self.terms]
        self.note_at_once(rules)
        self.note_the_rest()

    def note(self, one, other, reason):
        """Note a pair with its reason, if it is new."""
        if not self.overs[one] >> other & 1:
            self.numbers[(one, other)] = len(self.pairs)
            self.pairs.append((one, other))
            self.reasons.append(reason)
            self.overs[one] = self.overs[one] | 1 << other
            self.unders[other] = self.unders[other] | 1 << one

    def note_at_once(self, rules):
        """Note the pairs that follow from no others."""
        for at in range(len(self.terms)):
            self.note(at, at, ("same",))
        for name, left, right in rules:
            self.note(self.places[left], self.places[right], ("rule", name))
        for whole, part in self.parts_with("&"):
            self.note(whole, part, ("part",))
        for whole, part in self.parts_with("|"):
            self.note(part, whole, ("part",))

    def note_the_rest(self):
        """Note all pairs that follow from others.

        Each pair is put together with all pairs that are known by then, so the later one of two meets the earlier one.
        """
        lowers = self.wholes_with("&")
        uppers = self.wholes_with("|")
        at = 0
        while at < len(self.pairs):
            one, other = self.pairs[at]
            self.note_chains(at)
            for whole, parts in lowers[other]:
                # All parts are there, and the whole is not there yet.
                if self.overs[one] & (parts | 1 << whole) == parts:
                    numbers = [self.numbers[(one, part)] for part in self.parts_of(whole)]
                    self.note(one, whole, ("into", tuple(numbers)))
            for whole, parts in uppers[one]:
                if self.unders[other] & (parts | 1 << whole) == parts:
                    numbers = [self.numbers[(part, other)] for part in self.parts_of(whole)]
                    self.note(whole, other, ("out", tuple(numbers)))
            at = at + 1

    def note_chains(self, number):
        """Note all pairs that a pair gives with another one before or behind it."""
        one, other = self.pairs[number]
        for third in indexes_in(self.overs[other] & ~self.overs[one]):
            self.note(one, third, ("chain", number, self.numbers[(other, third)]))
        for third in indexes_in(self.unders[one] & ~self.unders[other]):
            self.note(third, other, ("chain", self.numbers[(third, one)], number))

    def parts_of(self, whole):
        """Return the list of the indexes of the parts of a term that is not a letter."""
        return [self.places[part] for part in self.terms[whole][1:]]

    def parts_with(self, sign):
        """Return the list of the pairs (whole, part) for all terms with an operator."""
        wholes = [at for at in range(len(self.terms)) if self.terms[at][0] == sign]
        return [(whole, part) for whole in wholes for part in self.parts_of(whole)]

    def wholes_with(self, sign):
        """Return a list for each part: the terms with an operator, each one with the mask of all its parts."""
        found = [[] for term in self.terms]
        for whole, part in self.parts_with(sign):
            # A part may stand there twice, and a mask is made of different indexes.
            found[part].append((whole, mask_of(sorted(set(self.parts_of(whole))))))
        return found

    def number_of(self, goal):
        """Return the number of a pair of terms of the vocabulary, or None if it cannot be derived."""
        left, right = goal
        return self.numbers.get((self.places[left], self.places[right]))

    def steps_up_to(self, number):
        """Return the steps of all pairs up to a number."""
        found = []
        for at in range(number + 1):
            one, other = self.pairs[at]
            found.append((self.terms[one], self.terms[other], self.reasons[at]))
        return found

    def term_pairs(self):
        """Return the list of all pairs, as terms, in the order of the vocabulary."""
        return [(self.terms[one], self.terms[other]) for one, other in sorted(self.pairs)]
