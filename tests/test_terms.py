"""[3] and fivefault/terms.py: terms, their measures, and new terms from old ones."""

import itertools
import random
import unittest

from fivefault import terms as module
from fivefault.errors import InvalidLetter, InvalidTerm
from fivefault.terms import depth, is_term, letters, lower, size, substituted, subterms, turned, upper, walk
from tests import samples


class Constants(unittest.TestCase):
    def test_constants(self):
        self.assertEqual(module.LETTERS, "abcdefgh")
        bounds = [module.MAX_DEPTH, module.MAX_SIZE, module.LONG_DEPTH, module.LONG_SIZE]
        self.assertEqual(bounds, [5, 24, 9, 600])


class IsTerm(unittest.TestCase):
    def test_letters(self):
        for letter in samples.LETTERS:
            self.assertIs(is_term(letter), True)

    def test_strings_that_are_no_letters(self):
        for text in ["", "i", "z", "A", "H", "1", " ", "&", "|", "ab", "abcdefgh", "gh", "a ", "aa", "`", "\n", "a & b"]:
            self.assertIs(is_term(text), False, text)

    def test_terms(self):
        for term in samples.terms():
            self.assertIs(is_term(term), True, term)

    def test_default_bounds(self):
        for deep in range(1, 13):
            self.assertIs(is_term(samples.tower(deep)), deep <= 5)
        for wide in range(2, 60):
            self.assertIs(is_term(samples.row(wide)), wide <= 24)
        for deep in range(2, 8):
            for wide in range(deep, 30):
                self.assertIs(is_term(samples.bushy(deep, wide)), deep <= 5 and wide <= 24)

    def test_long_terms_are_not_terms_by_default(self):
        for term in samples.only_long_terms():
            self.assertIs(is_term(term), False)
            self.assertIs(is_term(term, max_depth=9, max_size=600), True)

    def test_long_bounds(self):
        for deep in range(2, 13):
            for wide in (12, 24, 25, 599, 600, 601, 602):
                expected = deep <= 9 and wide <= 600
                self.assertIs(is_term(samples.bushy(deep, wide), max_depth=9, max_size=600), expected)

    def test_other_bounds(self):
        for term in samples.terms()[::7] + samples.only_long_terms() + [samples.tower(12)]:
            deep, wide = samples.plain_depth(term), samples.plain_size(term)
            for more, other in itertools.product((-deep, -1, 0, 1, 20), (-wide, -1, 0, 1, 10 ** 29)):
                found = is_term(term, max_depth=deep + more, max_size=wide + other)
                self.assertIs(found, more >= 0 and other >= 0)

    def test_bounds_from_zero_on(self):
        for deep, wide in itertools.product(range(4), range(4)):
            self.assertIs(is_term("a", max_depth=deep, max_size=wide), deep >= 1 and wide >= 1)
            self.assertIs(is_term(("&", "a", "b"), max_depth=deep, max_size=wide), deep >= 2 and wide >= 2)
        self.assertIs(is_term("a", max_depth=0), False)
        self.assertIs(is_term("a", max_size=0), False)

    def test_one_bound_leaves_the_other_one_at_its_default(self):
        self.assertIs(is_term(samples.tower(6), max_depth=6), True)
        self.assertIs(is_term(samples.row(25), max_depth=9), False)
        self.assertIs(is_term(samples.row(25), max_size=25), True)
        self.assertIs(is_term(samples.tower(6), max_size=600), False)

    def test_values_that_are_no_terms(self):
        for value in samples.no_long_terms():
            self.assertIs(is_term(value), False, value)
            self.assertIs(is_term(value, max_depth=9, max_size=600), False, value)

    def test_wrong_forms_with_wide_bounds(self):
        for value in samples.no_long_terms():
            self.assertIs(is_term(value, max_depth=99, max_size=9999), samples.has_form(value), value)

    def test_parts_and_operators(self):
        for value in [(), ("&",), ("|",), ("&", "a"), ("|", ("&", "a", "b")), ("a", "b"), ("a",), ("a", "b", "c"),
                      ("+", "a", "b"), ("<", "a", "b"), ("", "a", "b"), ("&|", "a", "b"), (" & ", "a", "b"),
                      ("and", "a", "b"), (["&"], "a", "b"), (("&",), "a", "b"), (1, "a", "b"), (True, "a", "b"),
                      ["&", "a", "b"], ("&", ["|", "a", "b"], "c"), ("&", "a", ["b"]), ("&", "a", "b", "i"),
                      ("&", "a", "b", None), ("&", 1, 2), ("&", "&", "&"), ("&", "a", "|", "b")]:
            self.assertIs(is_term(value), False, value)

    def test_random_values(self):
        for value in samples.random_values(3000, seed=6):
            expected = samples.has_form(value)
            if expected:
                expected = samples.plain_depth(value) <= 5 and samples.plain_size(value) <= 24
            self.assertIs(is_term(value), expected, value)

    def test_a_shared_part_counts_each_time_and_ends_soon(self):
        term = "a"
        for _ in range(12):
            term = ("&",) + (term,) * 50
        self.assertIs(is_term(term), False)
        self.assertIs(is_term(term, max_depth=20, max_size=5000), False)

    def test_bounds_are_keyword_only(self):
        self.assertRaises(TypeError, is_term, "a", 5)
        self.assertRaises(TypeError, is_term, "a", 5, 24)
        self.assertIs(is_term(value="a", max_size=1, max_depth=1), True)


class Measures(unittest.TestCase):
    def all_terms(self):
        return samples.terms() + samples.only_long_terms()

    def test_depth_and_size(self):
        for term in self.all_terms():
            self.assertEqual(depth(term), samples.plain_depth(term))
            self.assertEqual(size(term), samples.plain_size(term))
        self.assertEqual([depth("a"), size("a")], [1, 1])
        self.assertEqual([depth(samples.bushy(9, 600)), size(samples.bushy(9, 600))], [9, 600])
        self.assertEqual(size(("&", "a", "a", ("|", "a", "a"))), 4)

    def test_letters(self):
        for term in self.all_terms():
            expected = sorted({part for part in samples.plain_walk(term) if isinstance(part, str)})
            self.assertEqual(letters(term), expected)
        self.assertEqual(letters(("&", "h", ("|", "c", "h"), "a")), ["a", "c", "h"])

    def test_walk(self):
        for term in self.all_terms():
            self.assertEqual(list(walk(term)), samples.plain_walk(term))
        inner = ("&", "a", "b")
        self.assertEqual(list(walk(("|", inner, "a", inner))),
                         [("|", inner, "a", inner), inner, "a", "b", "a", inner, "a", "b"])

    def test_walk_is_a_generator(self):
        found = walk(("&", "a", "b"))
        self.assertIs(iter(found), found)
        self.assertEqual(next(found), ("&", "a", "b"))
        self.assertEqual(next(found), "a")
        self.assertEqual(list(found), ["b"])

    def test_subterms(self):
        for term in self.all_terms():
            self.assertEqual(subterms(term), list(dict.fromkeys(samples.plain_walk(term))))
        inner = ("&", "b", "a")
        self.assertEqual(subterms(("|", inner, "a", inner)), [("|", inner, "a", inner), inner, "b", "a"])

    def test_turned(self):
        self.assertEqual(turned("a"), "a")
        self.assertEqual(turned(("&", "a", ("|", "b", "c"), ("&", "d", "a"))),
                         ("|", "a", ("&", "b", "c"), ("|", "d", "a")))
        swap = str.maketrans("&|", "|&")
        for term in self.all_terms():
            self.assertEqual(samples.plain_text(turned(term)), samples.plain_text(term).translate(swap))
            self.assertEqual(turned(turned(term)), term)

    def test_invalid_terms(self):
        for value in samples.no_long_terms():
            for function in (depth, size, letters, subterms, turned):
                with self.assertRaises(InvalidTerm):
                    function(value)
            found = walk(value)
            with self.assertRaises(InvalidTerm):
                next(found)

    def test_lists_are_new(self):
        term = ("&", "a", "b")
        for function in (letters, subterms):
            function(term).append("x")
            self.assertNotIn("x", function(term))
            self.assertIs(type(function(term)), list)

    def test_arguments_by_keyword(self):
        term = ("&", "a", "b")
        found = [depth(term=term), size(term=term), letters(term=term), list(walk(term=term)), subterms(term=term),
                 turned(term=term)]
        self.assertEqual(found, [2, 2, ["a", "b"], [term, "a", "b"], [term, "a", "b"], ("|", "a", "b")])


class LowerAndUpper(unittest.TestCase):
    both = ((lower, "&"), (upper, "|"))

    def test_several_parts(self):
        for function, sign in self.both:
            self.assertEqual(function("a", "b"), (sign, "a", "b"))
            self.assertEqual(function("b", "a", "a"), (sign, "b", "a", "a"))
            self.assertEqual(function((sign, "a", "b"), "c"), (sign, (sign, "a", "b"), "c"))
            self.assertEqual(function(*["a"] * 24), (sign,) + ("a",) * 24)

    def test_one_part_is_returned_unchanged(self):
        for function, sign in self.both:
            for term in samples.terms():
                self.assertEqual(function(term), term)

    def test_no_part(self):
        for function, sign in self.both:
            self.assertRaises(InvalidTerm, function)

    def test_parts_that_are_no_terms(self):
        for value in samples.no_long_terms() + samples.only_long_terms():
            for function, sign in self.both:
                for parts in ([value], [value, "a"], ["a", value], ["a", "b", value]):
                    with self.assertRaises(InvalidTerm):
                        function(*parts)

    def test_results_that_are_too_deep_or_too_large(self):
        for function, sign in self.both:
            self.assertEqual(function(samples.tower(4), "a"), (sign, samples.tower(4), "a"))
            self.assertRaises(InvalidTerm, function, samples.tower(5), "a")
            self.assertRaises(InvalidTerm, function, "a", samples.tower(5))
            self.assertEqual(function(samples.row(23), "a"), (sign, samples.row(23), "a"))
            self.assertRaises(InvalidTerm, function, samples.row(24), "a")
            self.assertRaises(InvalidTerm, function, *["a"] * 25)


class Substituted(unittest.TestCase):
    def plainly(self, term, replacements):
        if isinstance(term, str):
            return replacements.get(term, term)
        return (term[0], *[self.plainly(part, replacements) for part in term[1:]])

    def test_none_some_and_all(self):
        term = ("|", "a", ("&", "b", "c"), "a")
        self.assertEqual(substituted(term), term)
        self.assertEqual(substituted(term, d="a"), term)
        self.assertEqual(substituted(term, b="h"), ("|", "a", ("&", "h", "c"), "a"))
        self.assertEqual(substituted(term, a="b", b="c", c="a"), ("|", "b", ("&", "c", "a"), "b"))
        self.assertEqual(substituted("a", a=("&", "a", "b")), ("&", "a", "b"))
        self.assertEqual(substituted("b", a="c"), "b")

    def test_all_at_once(self):
        self.assertEqual(substituted(("&", "a", "b"), a="b", b="a"), ("&", "b", "a"))
        self.assertEqual(substituted(("&", "a", "b"), a=("|", "a", "b"), b=("|", "b", "a")),
                         ("&", ("|", "a", "b"), ("|", "b", "a")))

    def test_random(self):
        source = random.Random(7)
        results = 0
        for term in samples.random_terms(400, depth=4, size=10, seed=8):
            chosen = source.sample(samples.LETTERS, source.randint(0, 8))
            given = {letter: samples.random_term(source, 3, source.randint(1, 5)) for letter in chosen}
            before = dict(given)
            expected = self.plainly(term, given)
            if samples.plain_depth(expected) <= 5 and samples.plain_size(expected) <= 24:
                self.assertEqual(substituted(term, **given), expected)
                results += 1
            else:
                self.assertRaises(InvalidTerm, substituted, term, **given)
            self.assertEqual(given, before)
        self.assertTrue(100 < results < 400)

    def test_first_argument_is_checked_first(self):
        for value in samples.no_long_terms() + samples.only_long_terms():
            with self.assertRaises(InvalidTerm):
                substituted(value)
            with self.assertRaises(InvalidTerm):
                substituted(value, x="a", a="no")

    def test_first_keyword_that_is_no_letter(self):
        for given, expected in [({"x": "a"}, "x"), ({"z": "a", "x": "a", "i": "a"}, "i"), ({"ab": "a", "a": "b"}, "ab"),
                                ({"x": "no", "a": "no", "b": 1}, "x"), ({"A": "a", "B": "a", "a": 5}, "A"),
                                ({"": "a", "z": "b"}, ""), ({"self": "a", "value": "a"}, "self"),
                                ({"h": None, "i": "a"}, "i"), ({"a": samples.row(24), "replacements": "a"},
                                                                "replacements")]:
            with self.assertRaises(InvalidLetter) as caught:
                substituted(("&", "a", "a"), **given)
            self.assertEqual(caught.exception.letter, expected)

    def test_replacements_that_are_no_terms(self):
        for value in samples.no_long_terms() + samples.only_long_terms():
            for given in ({"a": value}, {"h": value}, {"a": "b", "b": value}):
                with self.assertRaises(InvalidTerm):
                    substituted(("|", "a", "b"), **given)

    def test_results_that_are_too_deep_or_too_large(self):
        self.assertEqual(depth(substituted(samples.tower(3), a=samples.tower(3))), 5)
        self.assertRaises(InvalidTerm, substituted, samples.tower(3), a=samples.tower(4))
        self.assertEqual(size(substituted(("&", "a", "a"), a=samples.row(12))), 24)
        self.assertRaises(InvalidTerm, substituted, ("&", "a", "a"), a=samples.row(13))
        self.assertRaises(InvalidTerm, substituted, ("&", "a", "a", "b"), a=samples.row(12))
        self.assertRaises(InvalidTerm, substituted, ("&",) + ("a",) * 24, a=samples.row(24))


class Definitions(unittest.TestCase):
    def test_all_are_defined_in_their_file(self):
        for name in ("is_term", "lower", "upper", "depth", "size", "letters", "walk", "subterms", "turned",
                     "substituted"):
            self.assertEqual(getattr(module, name).__module__, "fivefault.terms")

    def test_example(self):
        t = upper("a", lower("b", "c"))
        self.assertEqual([t, substituted(t, a="b", b=("|", "a", "c"))],
                         [("|", "a", ("&", "b", "c")), ("|", "b", ("&", ("|", "a", "c"), "c"))])


if __name__ == "__main__":
    unittest.main()
