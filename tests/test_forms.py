"""[16], [17] and fivefault/forms.py: what is always below what, and least forms."""

import itertools
import random
import time
import unittest

from fivefault import forms as module
from fivefault.boards import Board
from fivefault.errors import InvalidTerm
from fivefault.forms import always_below, equal_everywhere, free_steps, is_least, least_form
from tests import orders, plain_forms, questions, samples, verdicts


def term_pairs():
    """Pairs of terms: equal, rewritten, raised, and unrelated ones."""
    source = random.Random(160)
    terms = samples.terms()[::3] + plain_forms.large_terms()
    found = [(term, term) for term in terms[::5]]
    for term in terms:
        found.append((term, plain_forms.rewritten(source, term, source.randint(1, 6))))
        found.append((term, plain_forms.raised(source, term)))
        found.append((plain_forms.raised(source, term, up=False), term))
        found.append((plain_forms.raised(source, term), term))
        found.append((term, source.choice(terms)))
        found.append((term, verdicts.turned(term)))
    found += [(goal[1], goal[0]) for rules, goal in verdicts.PATTERNS] + [goal for rules, goal in verdicts.PATTERNS]
    return found


class Below(unittest.TestCase):
    def test_by_a_reckoning_of_its_own(self):
        counts = [0, 0]
        for one, other in term_pairs():
            for left, right in ((one, other), (other, one)):
                expected = plain_forms.plain_below(left, right)
                self.assertIs(always_below(left, right), expected)
                self.assertIs(equal_everywhere(left, right), expected and plain_forms.plain_below(right, left))
                counts[expected] += 1
        self.assertTrue(min(counts) > 300, counts)

    def test_by_what_can_be_derived(self):
        pairs = [pair for pair in term_pairs() if samples.plain_size(pair[0]) + samples.plain_size(pair[1]) <= 14]
        counts = [0, 0]
        for left, right in pairs[::3]:
            expected = plain_forms.derived_below(left, right)
            self.assertIs(always_below(left, right), expected)
            counts[expected] += 1
        self.assertTrue(min(counts) > 30, counts)

    def test_all_pairs_of_small_terms(self):
        terms = samples.small_terms()[::9]
        for left, right in itertools.product(terms, repeat=2):
            self.assertIs(always_below(left, right), plain_forms.plain_below(left, right))

    def test_the_same_as_the_answers(self):
        for left, right in term_pairs()[::4]:
            if verdicts.is_asked([], (left, right)):
                self.assertIs(always_below(left, right), verdicts.plain_kind([], (left, right)) == "always")

    def test_examples(self):
        a_and_b, a_or_b = ("&", "a", "b"), ("|", "a", "b")
        for left, right, expected in [("a", "a", True), ("a", "b", False), (a_and_b, "a", True), ("a", a_or_b, True),
                                      (a_and_b, a_or_b, True), (a_or_b, a_and_b, False), ("a", a_and_b, False),
                                      (("&", "a", a_or_b), "a", True), ("a", ("&", "a", a_or_b), True),
                                      (a_and_b, ("&", "b", "a"), True), (("|", "a", a_and_b), "a", True),
                                      (questions.PENTAGON[1][1], questions.PENTAGON[1][0], True),
                                      (*questions.PENTAGON[1], False)]:
            self.assertIs(always_below(left, right), expected)
            self.assertIs(always_below(right=right, left=left), expected)
        self.assertIs(equal_everywhere(other=("&", "a", a_or_b), one="a"), True)
        self.assertIs(equal_everywhere("a", a_or_b), False)
        self.assertIs(equal_everywhere(a_or_b, "a"), False)

    def test_rewritten_and_raised_terms(self):
        source = random.Random(161)
        for term in samples.terms()[::2] + plain_forms.large_terms():
            other = plain_forms.rewritten(source, term, 5)
            self.assertIs(equal_everywhere(term, other), True)
            self.assertIs(equal_everywhere(other, term), True)
            self.assertIs(always_below(term, plain_forms.raised(source, other)), True)
            self.assertIs(always_below(plain_forms.raised(source, other, up=False), term), True)

    def test_readings_on_boards(self):
        source = random.Random(162)
        boards = [(Board(rows), len(rows)) for rows in orders.small_boards()[::3]]
        for left, right in term_pairs()[::3]:
            if always_below(left, right):
                for board, many in source.sample(boards, 3):
                    reading = {letter: source.randrange(many) for letter in samples.LETTERS}
                    self.assertTrue(board.keeps(left, right, reading))

    def test_turned_terms_with_exchanged_sides(self):
        for left, right in term_pairs()[::2]:
            self.assertIs(always_below(verdicts.turned(right), verdicts.turned(left)), always_below(left, right))

    def test_how_long_it_takes(self):
        terms = plain_forms.large_terms()
        before = time.perf_counter()
        for left, right in itertools.product(terms, repeat=2):
            always_below(left, right)
            equal_everywhere(left, right)
            free_steps(left, right)
        self.assertLess(time.perf_counter() - before, 10)
        before = time.perf_counter()
        for term in terms:
            least_form(term)
        self.assertLess(time.perf_counter() - before, 5)


class FreeSteps(unittest.TestCase):
    def test_a_derivation_or_none(self):
        counts = [0, 0]
        for one, other in term_pairs():
            for left, right in ((one, other), (other, one)):
                steps = free_steps(left, right)
                expected = plain_forms.plain_below(left, right)
                counts[expected] += 1
                if not expected:
                    self.assertIsNone(steps)
                    continue
                self.assertIs(type(steps), list)
                self.assertTrue(questions.is_plain_derivation([], (left, right), steps))
                self.assertTrue(all(step[2][0] != "rule" for step in steps))
                self.assertLess(len(steps), 10000)
        self.assertTrue(min(counts) > 300)

    def test_examples(self):
        self.assertEqual(free_steps("a", "a"), [("a", "a", ("same",))])
        self.assertEqual(free_steps(right="a", left=("&", "a", "b")), [(("&", "a", "b"), "a", ("part",))])
        self.assertIsNone(free_steps("a", "b"))

    def test_a_new_list_each_time(self):
        free_steps("a", "a").clear()
        self.assertEqual(len(free_steps("a", "a")), 1)


class LeastForm(unittest.TestCase):
    def test_all_conditions(self):
        source = random.Random(163)
        terms = samples.terms() + plain_forms.large_terms()
        terms += [plain_forms.rewritten(source, term, 6) for term in terms]
        least = 0
        for term in terms:
            found = least_form(term)
            self.assertTrue(questions.is_plain_term(found))
            self.assertTrue(plain_forms.is_plain_least(found), (term, found))
            self.assertTrue(plain_forms.plain_equal(term, found))
            self.assertLessEqual(samples.plain_size(found), samples.plain_size(term))
            self.assertEqual(least_form(found), found)
            self.assertIs(is_least(found), True)
            expected = plain_forms.is_plain_least(term)
            self.assertIs(is_least(term), expected)
            self.assertIs(found == term, expected)
            least += expected
        self.assertTrue(40 < least < len(terms) // 2)

    def test_one_for_all_rewritings(self):
        source = random.Random(164)
        for term in samples.terms()[::3] + plain_forms.large_terms():
            found = least_form(term)
            for _ in range(4):
                self.assertEqual(least_form(plain_forms.rewritten(source, term, 7)), found)

    def test_equal_exactly_if_equal_everywhere(self):
        for one, other in term_pairs()[::2]:
            self.assertIs(least_form(one) == least_form(other), plain_forms.plain_equal(one, other))

    def test_no_smaller_term(self):
        """All terms with up to four letters, and the smallest size that each class of equal terms has."""
        terms = self.terms_of_size(4)
        smallest = {}
        for term in sorted(terms, key=samples.plain_size):
            found = least_form(term)
            smallest.setdefault(found, samples.plain_size(term))
            self.assertEqual(samples.plain_size(found), smallest[found])
        self.assertTrue(20 < len(smallest) < len(terms) // 5)

    def terms_of_size(self, most):
        by_size = {1: list("abc")}
        for size in range(2, most + 1):
            by_size[size] = []
            for many in range(2, size + 1):
                for sizes in itertools.product(range(1, size), repeat=many):
                    if sum(sizes) == size:
                        for parts in itertools.product(*[by_size[one] for one in sizes]):
                            by_size[size] += [(sign, *parts) for sign in "&|"]
        return [term for terms in by_size.values() for term in terms]

    def test_examples(self):
        for term, expected in [("a", "a"), (("&", "b", "a"), ("&", "a", "b")), (("&", "a", "a"), "a"),
                               (("|", "a", ("&", "a", "b")), "a"), (("&", "a", ("&", "c", "b")), ("&", "a", "b", "c")),
                               (("|", "c", ("&", "b", "a")), ("|", ("&", "a", "b"), "c")),
                               (("|", ("&", "a", ("|", "b", "c")), "b", "c"), ("|", "b", "c")),
                               (("|", ("&", "c", "b"), "a"), ("|", "a", ("&", "b", "c")))]:
            self.assertEqual(least_form(term), expected)
            self.assertIs(is_least(expected), True)
            self.assertIs(is_least(term), term == expected)
        # The texts of the parts stand without parentheses: "a" and "b & c".
        self.assertIs(is_least(term=("|", "a", ("&", "b", "c"))), True)
        self.assertIs(is_least(("|", ("&", "b", "c"), "a")), False)

    def test_parts_of_parts(self):
        inner = ("&", "a", ("|", "b", "c"))
        self.assertIs(is_least(("|", inner, "d")), True)
        self.assertIs(is_least(("|", inner, "b")), True)
        # The part a | b of a part is below the term, as a and b are.
        whole = ("|", ("&", ("|", "a", "b"), ("|", "a", "c")), "b", "d")
        self.assertEqual(least_form(whole), ("|", "a", "b", "d"))
        whole = ("|", ("&", ("|", "a", "b"), "d"), "a", "b")
        self.assertEqual(least_form(whole), ("|", "a", "b"))
        self.assertEqual(least_form(verdicts.turned(whole)), ("&", "a", "b"))

    def test_turned(self):
        for term in samples.terms()[::5]:
            self.assertEqual(samples.plain_size(least_form(verdicts.turned(term))), samples.plain_size(least_form(term)))

    def test_by_keyword(self):
        self.assertEqual(least_form(term=("&", "b", "a")), ("&", "a", "b"))


class Refused(unittest.TestCase):
    def test_values_that_are_no_terms(self):
        for value in samples.no_long_terms() + samples.only_long_terms():
            for call in (lambda: always_below(value, "a"), lambda: always_below("a", value),
                         lambda: equal_everywhere(value, "a"), lambda: equal_everywhere("a", value),
                         lambda: equal_everywhere("b", value), lambda: always_below("b", value),
                         lambda: free_steps(value, "a"), lambda: free_steps("a", value),
                         lambda: free_steps(value, value), lambda: always_below(value, value),
                         lambda: least_form(value), lambda: is_least(value)):
                self.assertRaises(InvalidTerm, call)


class Interface(unittest.TestCase):
    def test_all_are_defined_in_their_file(self):
        for name in ("always_below", "equal_everywhere", "free_steps", "least_form", "is_least"):
            self.assertEqual(getattr(module, name).__module__, "fivefault.forms")


if __name__ == "__main__":
    unittest.main()
