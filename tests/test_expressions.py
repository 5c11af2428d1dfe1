"""[3], [4] and fivefault/expressions.py: expressions."""

import random
import unittest

from fivefault import expressions as module
from fivefault.errors import InvalidLetter, InvalidTerm, InvalidText
from fivefault.expressions import Expr
from tests import samples


class Making(unittest.TestCase):
    def test_of_terms(self):
        for term in samples.terms():
            self.assertEqual(Expr(term).term, term)
        self.assertEqual(Expr(term=("&", "a", "b")).term, ("&", "a", "b"))

    def test_of_other_values(self):
        for value in samples.no_long_terms() + samples.only_long_terms() + ["a & b", "(a)", "", [], ["&", "a", "b"]]:
            with self.assertRaises(InvalidTerm):
                Expr(value)

    def test_of_an_expression(self):
        self.assertRaises(InvalidTerm, Expr, Expr("a"))
        self.assertRaises(InvalidTerm, Expr, ("&", Expr("a"), "b"))

    def test_parse(self):
        for term in samples.terms()[::5]:
            self.assertEqual(Expr.parse(samples.plain_text(term)).term, term)
        self.assertIs(type(Expr.parse("a")), Expr)
        self.assertEqual(Expr.parse(text="(a & b) | c").term, ("|", ("&", "a", "b"), "c"))

    def test_parse_refuses_other_texts(self):
        wrong = ["", " ", "i", "(a)", "a & b | c", "a&b", "a & ", "A", "ab", "a\n", "Expr(a)", "a < b", "(" * 2000,
                 ")" * 2000, "(" * 1500 + "a & b" + ")" * 1500, "(" * 3000 + "a", "()" * 999]
        wrong += [samples.plain_text(term) for term in samples.only_long_terms()]
        for text in wrong:
            with self.assertRaises(InvalidText):
                Expr.parse(text)

    def test_term_cannot_be_assigned(self):
        one = Expr("a")
        with self.assertRaises(AttributeError):
            one.term = "b"
        self.assertEqual(one.term, "a")


class Many(unittest.TestCase):
    def test_letters(self):
        for text in ["", "a", "h", "abc", "cab", "aab", "abcdefgh", "hgfedcba" * 40]:
            found = Expr.many(text)
            self.assertIs(type(found), list)
            self.assertEqual([one.term for one in found], list(text))
            self.assertTrue(all(type(one) is Expr for one in found))
        self.assertEqual(len(Expr.many(text="ab")), 2)

    def test_a_new_list_each_time(self):
        found = Expr.many("ab")
        found.append(1)
        self.assertEqual(len(Expr.many("ab")), 2)

    def test_first_wrong_character(self):
        for text, letter in [("i", "i"), ("abi", "i"), ("a b", " "), ("zay", "z"), ("aA", "A"), ("ab\n", "\n"),
                             ("a&b", "&"), ("abcdefghi", "i"), ("1", "1"), ("a|(", "|"), (" a", " "), ("aéb", "é")]:
            with self.assertRaises(InvalidLetter) as caught:
                Expr.many(text)
            self.assertEqual(caught.exception.letter, letter)
            self.assertEqual(caught.exception.code, "InvalidLetter")


class Signs(unittest.TestCase):
    def test_both_signs(self):
        a, b, c = Expr.many("abc")
        self.assertEqual((a & b).term, ("&", "a", "b"))
        self.assertEqual((a | b).term, ("|", "a", "b"))
        self.assertEqual((a & a).term, ("&", "a", "a"))
        self.assertEqual((a & b & c).term, ("&", ("&", "a", "b"), "c"))
        self.assertEqual((a & (b & c)).term, ("&", "a", ("&", "b", "c")))
        self.assertEqual((a | b & c).term, ("|", "a", ("&", "b", "c")))
        self.assertIs(type(a & b), Expr)
        self.assertEqual([a.term, b.term, c.term], ["a", "b", "c"])

    def test_in_place_makes_a_new_one(self):
        a, b = Expr.many("ab")
        kept = a
        a &= b
        self.assertEqual([a.term, kept.term], [("&", "a", "b"), "a"])

    def test_random_terms(self):
        source = random.Random(40)
        terms = samples.terms()
        results = 0
        for _ in range(1500):
            one, other = source.choice(terms), source.choice(terms)
            for sign, put in (("&", lambda x, y: x & y), ("|", lambda x, y: x | y)):
                whole = (sign, one, other)
                if samples.plain_depth(whole) <= 5 and samples.plain_size(whole) <= 24:
                    self.assertEqual(put(Expr(one), Expr(other)).term, whole)
                    results += 1
                else:
                    self.assertRaises(InvalidTerm, put, Expr(one), Expr(other))
        self.assertTrue(100 < results < 2900)

    def test_results_that_are_too_deep(self):
        for deep in range(1, 6):
            one, other = Expr(samples.tower(deep)), Expr("h")
            for pair in ((one, other), (other, one)):
                if deep <= 4:
                    self.assertEqual((pair[0] & pair[1]).term, ("&", pair[0].term, pair[1].term))
                    self.assertEqual((pair[0] | pair[1]).term, ("|", pair[0].term, pair[1].term))
                else:
                    self.assertRaises(InvalidTerm, lambda: pair[0] & pair[1])
                    self.assertRaises(InvalidTerm, lambda: pair[0] | pair[1])

    def test_results_that_are_too_large(self):
        for wide in range(2, 25):
            one, other = Expr(samples.row(wide)), Expr(samples.row(12))
            if wide <= 12:
                self.assertEqual(len(one & other), wide + 12)
                self.assertEqual(len(other | one), wide + 12)
            else:
                self.assertRaises(InvalidTerm, lambda: one & other)
                self.assertRaises(InvalidTerm, lambda: other | one)


class Equality(unittest.TestCase):
    def test_equal_terms(self):
        terms = samples.terms()[::9]
        for at, one in enumerate(terms):
            for other in terms[at:]:
                self.assertIs(Expr(one) == Expr(other), one == other)
                self.assertIs(Expr(one) != Expr(other), one != other)

    def test_the_order_of_the_parts_counts(self):
        a, b = Expr.many("ab")
        self.assertIs(a & b == b & a, False)
        self.assertIs(a & b == Expr(("&", "a", "b")), True)
        self.assertIs(a & b == a | b, False)
        self.assertIs(Expr.parse("a & b") == a & b, True)

    def test_other_values(self):
        class Like:
            term = "a"
            held = "a"

        for value in ["a", "Expr(a)", ("a",), ["a"], None, True, 1, 0, {}, {"a"}, Like(), Expr, ("&", "a", "b")]:
            for one in (Expr("a"), Expr(("&", "a", "b"))):
                self.assertIs(one == value, False)
                self.assertIs(value == one, False)
                self.assertIs(one != value, True)


class Measures(unittest.TestCase):
    def test_letters_in(self):
        for term in samples.terms()[::3]:
            used = {part for part in samples.plain_walk(term) if isinstance(part, str)}
            for letter in samples.LETTERS:
                self.assertIs(letter in Expr(term), letter in used)
                self.assertIs(letter not in Expr(term), letter not in used)

    def test_what_is_no_letter_does_not_occur(self):
        one = Expr.parse("(a & b) | c")
        for value in ["", " ", "&", "|", "(", "i", "ab", "a & b", "A", ("&", "a", "b"), None, 1, [], Expr("a")]:
            self.assertIs(value in one, False)

    def test_len(self):
        for term in samples.terms():
            self.assertEqual(len(Expr(term)), samples.plain_size(term))
        self.assertTrue(Expr("a"))

    def test_texts(self):
        for term in samples.terms():
            self.assertEqual(str(Expr(term)), samples.plain_text(term))
            self.assertEqual(repr(Expr(term)), "Expr(" + samples.plain_text(term) + ")")
        self.assertEqual(repr(Expr(("&", "a", "b"))), "Expr(a & b)")
        self.assertEqual(str(Expr("a")), "a")
        self.assertEqual(f"{Expr('a')} {[Expr('b')]}", "a [Expr(b)]")

    def test_turned(self):
        swap = str.maketrans("&|", "|&")
        for term in samples.terms():
            one = Expr(term)
            found = one.turned()
            self.assertIs(type(found), Expr)
            self.assertEqual(samples.plain_text(found.term), samples.plain_text(term).translate(swap))
            self.assertEqual(found.turned(), one)
            self.assertEqual(one.term, term)


class Interface(unittest.TestCase):
    def test_methods_stand_in_the_class_itself(self):
        self.assertEqual(Expr.__module__, module.__name__)
        for name in ("parse", "many", "term", "turned", "__init__", "__and__", "__or__", "__eq__", "__contains__",
                     "__len__", "__str__", "__repr__"):
            self.assertIn(name, vars(Expr))
        self.assertIs(type(vars(Expr)["parse"]), classmethod)
        self.assertIs(type(vars(Expr)["many"]), staticmethod)
        self.assertIs(type(vars(Expr)["term"]), property)

    def test_class_and_static_method_also_off_an_object(self):
        self.assertEqual(Expr("b").parse("a"), Expr("a"))
        self.assertEqual(Expr("b").many("ac"), [Expr("a"), Expr("c")])


if __name__ == "__main__":
    unittest.main()
