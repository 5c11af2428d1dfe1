"""What can be derived from rules within a vocabulary."""


class Closure:
    """All pairs of terms of a vocabulary that can be derived from rules, each one with a reason.

    A pair is a pair of indexes of the vocabulary. Each one is noted once, behind the pairs that its reason names by
    their numbers.
    """

    def __init__(self, rules, terms):
        """Note all pairs. The terms are a vocabulary of the rules."""
        self.terms = list(terms)
        self.places = {self.terms[at]: at for at in range(len(self.terms))}
        self.pairs = []
        self.reasons = []
        self.numbers = {}
        self.note_at_once(rules)
        self.note_the_rest()

    def note(self, one, other, reason):
        """Note a pair with its reason, if it is new."""
        if (one, other) not in self.numbers:
            self.numbers[(one, other)] = len(self.pairs)
            self.pairs.append((one, other))
            self.reasons.append(reason)

    def note_at_once(self, rules):
        """Note the pairs that follow from no others."""
        for at in range(len(self.terms)):
            self.note(at, at, ("same",))
        for name, left, right in rules:
            self.note(self.places[left], self.places[right], ("rule", name))
        for whole, part in self.parts_with("&"):
            self.note(whole, part, ("part",))
        for whole, part in self.parts_with("|"):
            self.note(part, whole, ("part",))

    def note_the_rest(self):
        """Note all pairs that follow from others.

        Each pair is put together with all pairs that are known by then, so the later one of two meets the earlier one.
        """
        lowers = self.wholes_with("&")
        uppers = self.wholes_with("|")
        at = 0
        while at < len(self.pairs):
            one, other = self.pairs[at]
            self.note_chains(at)
            for whole in lowers[other]:
                self.note_together(one, whole, "into", [(one, part) for part in self.parts_of(whole)])
            for whole in uppers[one]:
                self.note_together(whole, other, "out", [(part, other) for part in self.parts_of(whole)])
            at = at + 1

    def note_chains(self, number):
        """Note all pairs that a pair gives with another one before or behind it."""
        one, other = self.pairs[number]
        for third in range(len(self.terms)):
            behind = self.numbers.get((other, third))
            if behind is not None:
                self.note(one, third, ("chain", number, behind))
            before = self.numbers.get((third, one))
            if before is not None:
                self.note(third, other, ("chain", before, number))

    def note_together(self, one, other, word, needed):
        """Note a pair that follows from several others, if these are all known."""
        numbers = [self.numbers.get(pair) for pair in needed]
        if None not in numbers:
            self.note(one, other, (word, tuple(numbers)))

    def parts_of(self, whole):
        """Return the list of the indexes of the parts of a term that is not a letter."""
        return [self.places[part] for part in self.terms[whole][1:]]

    def parts_with(self, sign):
        """Return the list of the pairs (whole, part) for all terms with an operator."""
        wholes = [at for at in range(len(self.terms)) if self.terms[at][0] == sign]
        return [(whole, part) for whole in wholes for part in self.parts_of(whole)]

    def wholes_with(self, sign):
        """Return a list with the indexes of the terms with an operator for each part."""
        found = [[] for term in self.terms]
        for whole, part in self.parts_with(sign):
            found[part].append(whole)
        return found

    def number_of(self, goal):
        """Return the number of a pair of terms of the vocabulary, or None if it cannot be derived."""
        left, right = goal
        return self.numbers.get((self.places[left], self.places[right]))

    def steps_up_to(self, number):
        """Return the steps of all pairs up to a number."""
        found = []
        for at in range(number + 1):
            one, other = self.pairs[at]
            found.append((self.terms[one], self.terms[other], self.reasons[at]))
        return found

    def term_pairs(self):
        """Return the list of all pairs, as terms, in the order of the vocabulary."""
        return [(self.terms[one], self.terms[other]) for one, other in sorted(self.pairs)]
