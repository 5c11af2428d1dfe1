"""[18] and fivefault/between.py: terms between two terms."""

import itertools
import random
import time
import unittest

from fivefault import between as package_file
from fivefault.between import between
from fivefault.boards import Board
from fivefault.errors import InvalidTerm
from tests import orders, plain_forms, questions, samples, verdicts
from tests.test_forms import term_pairs


def letters_of(term):
    return {part for part in samples.plain_walk(term) if isinstance(part, str)}


def crossed(source, many, wide):
    """A "|" term of "&" parts and an "&" term of "|" parts, with a common letter in each two parts."""
    common = source.sample("abcd", 2)
    lows = [("&", *source.sample("efgh", wide - 1), source.choice(common)) for _ in range(many)]
    highs = [("|", *source.sample("efgh", wide - 2), *common) for _ in range(many)]
    return ("|", *[(sign, *source.sample(parts, len(parts))) for sign, *parts in lows]), ("&", *highs)


def mutated(source, term):
    """A term with a letter, or a part, exchanged, put in or left out."""
    if isinstance(term, str) or source.random() < 0.15:
        return source.choice([source.choice(samples.LETTERS), (source.choice("&|"), term, source.choice(samples.LETTERS))])
    at = source.randrange(1, len(term))
    way = source.random()
    if way < 0.1 and len(term) > 3:
        return term[:at] + term[at + 1:]
    if way < 0.2:
        return term + (source.choice(term[1:]),)
    return term[:at] + (mutated(source, term[at]),) + term[at + 1:]


class Between(unittest.TestCase):
    def check(self, left, right):
        found = between(left, right)
        if not plain_forms.plain_below(left, right):
            self.assertIsNone(found)
            return None
        self.assertIs(type(found), tuple)
        term, lower, upper = found
        self.assertTrue(questions.is_plain_long_term(term))
        self.assertLessEqual(letters_of(term), letters_of(left) & letters_of(right), (left, right))
        for goal, steps in (((left, term), lower), ((term, right), upper)):
            self.assertIs(type(steps), list)
            self.assertTrue(questions.is_plain_derivation([], goal, steps))
            self.assertTrue(all(step[2][0] != "rule" for step in steps))
            self.assertLess(len(steps), 10000)
        return term

    def test_many_pairs(self):
        counts = [0, 0]
        for one, other in term_pairs():
            for left, right in ((one, other), (other, one)):
                counts[self.check(left, right) is not None] += 1
        self.assertTrue(min(counts) > 300)

    def test_small_terms_one_by_one(self):
        terms = samples.small_terms("abc", width=2)
        source = random.Random(170)
        for left, right in itertools.product(source.sample(terms, 60), repeat=2):
            self.check(left, right)

    def test_letters_of_one_side_only(self):
        a_and_b, a_or_c = ("&", "a", "b"), ("|", "a", "c")
        self.assertEqual(self.check(a_and_b, a_or_c), "a")
        self.assertEqual(self.check(a_and_b, "a"), "a")
        self.assertEqual(self.check("a", a_or_c), "a")
        self.assertEqual(self.check(a_and_b, ("|", a_and_b, "c")), a_and_b)
        self.assertEqual(self.check(("&", a_or_c, "d"), a_or_c), a_or_c)
        self.check(("|", a_and_b, ("&", "c", "d")), ("|", "a", "c", "e"))
        self.check(("&", a_or_c, ("|", "a", "d"), "e"), ("|", a_or_c, "f"))
        source = random.Random(171)
        for _ in range(600):
            term = source.choice(samples.terms())
            self.assertIsNotNone(self.check(plain_forms.raised(source, term, up=False), plain_forms.raised(source, term)))

    def test_no_common_letter(self):
        for left, right in [("a", "b"), (("&", "a", "b"), ("|", "c", "d")), (("|", "a", "b"), "c")]:
            self.assertIsNone(between(left, right))

    def test_terms_of_the_greatest_size(self):
        source = random.Random(172)
        found = 0
        for term in plain_forms.large_terms():
            for other in plain_forms.large_terms():
                self.check(term, other)
            for _ in range(3):
                found += self.check(term, plain_forms.rewritten(source, term, 3)) is not None
                other = mutated(source, term)
                self.check(term, other if questions.is_plain_term(other) else "a")
        for many, wide in [(12, 2), (8, 3), (6, 4), (4, 5)]:
            for _ in range(6):
                self.check(*crossed(source, many, wide))
        self.assertTrue(found > 30)

    def test_terms_that_grow(self):
        """Pairs that are changed step by step so that the term between grows."""
        source = random.Random(173)
        left, right = ("|", ("&", "a", "b"), ("&", "a", "c")), ("&", ("|", "a", "b"), ("|", "a", "c"))
        best = 0
        before = time.perf_counter()
        for _ in range(4000):
            pair = (mutated(source, left), right) if source.random() < 0.5 else (left, mutated(source, right))
            if all(questions.is_plain_term(term) for term in pair) and plain_forms.plain_below(*pair):
                steps = between(*pair)
                weight = len(steps[1]) + len(steps[2])
                if weight >= best:
                    best = weight
                    left, right = pair
                    self.check(left, right)
        self.assertTrue(best > 100, best)
        self.assertLess(time.perf_counter() - before, 30)

    def test_how_long_it_takes(self):
        source = random.Random(174)
        pairs = list(itertools.product(plain_forms.large_terms(), repeat=2))
        pairs += [crossed(source, many, wide) for many, wide in [(12, 2), (8, 3), (6, 4)] * 5]
        before = time.perf_counter()
        for left, right in pairs:
            between(left, right)
        self.assertLess(time.perf_counter() - before, 10)

    def test_turned_terms(self):
        for left, right in term_pairs()[::4]:
            self.assertIs(between(verdicts.turned(right), verdicts.turned(left)) is None, between(left, right) is None)

    def test_readings_on_boards(self):
        source = random.Random(175)
        boards = [(Board(rows), len(rows)) for rows in orders.small_boards()[::4]]
        for left, right in term_pairs()[::4]:
            found = between(left, right)
            if found is not None:
                board, many = source.choice(boards)
                reading = {letter: source.randrange(many) for letter in samples.LETTERS}
                self.assertTrue(board.keeps(left, found[0], reading) and board.keeps(found[0], right, reading))

    def test_values_that_are_no_terms(self):
        for value in samples.no_long_terms() + samples.only_long_terms():
            for left, right in ((value, "a"), ("a", value), (value, value), ("b", value)):
                self.assertRaises(InvalidTerm, between, left, right)

    def test_new_lists_each_time_and_keywords(self):
        found = between(right="a", left=("&", "a", "b"))
        found[1].clear()
        found[2].clear()
        self.assertEqual(between(("&", "a", "b"), "a"),
                         ("a", [(("&", "a", "b"), "a", ("part",))], [("a", "a", ("same",))]))

    def test_it_is_defined_in_its_file(self):
        self.assertEqual(between.__module__, "fivefault.between")
        self.assertIs(package_file.between, between)


if __name__ == "__main__":
    unittest.main()
