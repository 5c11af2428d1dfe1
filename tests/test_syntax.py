"""[4], [5], [6] and fivefault/syntax.py: names, and the texts of terms, goals and rules."""

import itertools
import random
import string
import unittest

from fivefault import syntax as module
from fivefault.errors import InvalidGoal, InvalidRules, InvalidTerm, InvalidText
from fivefault.syntax import format_goal, format_rule, format_term, is_name, parse_goal, parse_rule, parse_term
from tests import samples

CHARACTERS = [chr(code) for code in range(32, 127) if chr(code) != chr(37)] + ["\n"]


def changed_texts(text, characters):
    """The text with one character left out, doubled, replaced or put in, and with two exchanged."""
    for at in range(len(text)):
        yield text[:at] + text[at + 1:]
        yield text[:at] + text[at] + text[at:]
        yield text[:at] + text[at:at + 2][::-1] + text[at + 2:]
        for one in characters:
            yield text[:at] + one + text[at + 1:]
            yield text[:at] + one + text[at:]
    for one in characters:
        yield text + one


def plain_goal_text(goal):
    return samples.plain_text(goal[0]) + " < " + samples.plain_text(goal[1])


def plain_rule_text(rule):
    return rule[0] + ": " + plain_goal_text(rule[1:])


def is_plain_term(value):
    return samples.has_form(value) and samples.plain_depth(value) <= 5 and samples.plain_size(value) <= 24


class TextCase(unittest.TestCase):
    def refused(self, function, text):
        with self.assertRaises(InvalidText, msg=text[:80]):
            function(text)

    def accepted_or_refused(self, function, text, plain):
        """A text is accepted only if it is the very text of the result. Returns whether it was accepted."""
        try:
            found = function(text)
        except InvalidText:
            return False
        self.assertEqual(plain(found), text)
        self.assertIs(type(found), type(function(text)))
        return True


class FormatTerm(unittest.TestCase):
    def test_examples_of_the_document(self):
        self.assertEqual(format_term("a"), "a")
        self.assertEqual(format_term(("&", "a", "b", "c")), "a & b & c")
        self.assertEqual(format_term(("|", ("&", "a", "b"), "c")), "(a & b) | c")
        self.assertEqual(format_term(("&", "a", ("&", "b", ("|", "c", "a", "c")))), "a & (b & (c | a | c))")

    def test_terms_and_long_terms(self):
        for term in samples.terms() + samples.only_long_terms():
            self.assertEqual(format_term(term), samples.plain_text(term))

    def test_invalid_terms(self):
        for value in samples.no_long_terms():
            with self.assertRaises(InvalidTerm):
                format_term(value)


class ParseTerm(TextCase):
    def test_gives_the_term_back(self):
        for term in samples.terms():
            self.assertEqual(parse_term(samples.plain_text(term)), term)

    def test_texts_of_long_terms_are_refused(self):
        for term in samples.only_long_terms() + [samples.tower(6), samples.row(25), samples.bushy(5, 25)]:
            self.refused(parse_term, samples.plain_text(term))

    def test_bounds(self):
        self.assertEqual(parse_term("a | (b & (c | (d & e)))"), ("|", "a", ("&", "b", ("|", "c", ("&", "d", "e")))))
        self.refused(parse_term, "a | (b & (c | (d & (e | f))))")
        self.refused(parse_term, "((((a | b) & c) | d) & e) | f")
        self.assertEqual(parse_term(" & ".join("a" * 24)), ("&",) + ("a",) * 24)
        self.refused(parse_term, " & ".join("a" * 25))
        self.refused(parse_term, " | ".join("a" * 1000))

    def test_texts_that_are_not_the_text_of_a_term(self):
        for text in ["", " ", "\n", "a\n", "\na", "a &\nb", "a & b\n", " a", "a ", "a & b ", " a & b", "a  & b",
                     "a &  b", "a& b", "a &b", "a&b", "a &", "a & ", "& a", " & a", "&", "|", "(a)", "((a))",
                     "(a & b)", "((a & b))", "((a & b)) | c", "(a) & b", "a & (b)", "a & b | c", "a | b & c",
                     "(a & b | c) & d", "d & (a & b | c)", "(a & b) | c & d", "a & b & c | d", "i", "a & i", "A",
                     "z | a", "ab", "a b", "a a", "aa & b", "a && b", "a & & b", "a & b & ", "a + b", "a < b",
                     "()", "() & a", "a & ()", "( a & b) | c", "(a & b ) | c", "(a & b)| c", "(a & b) |c",
                     "(a & b)  | c", "(a & b | c", "(a & b", "a & b)", "(a & b)) | c", "((a & b) | c", ")a(",
                     "a & (b | c", "a & b | c)", "(a & b)(c & d)", "(a & b) (c & d)", "a(b & c)", "[a & b] | c",
                     "a\t& b", "('&', 'a', 'b')", "a & b & 1", "(a & (b | c)", "a & (b | (c & d)", "a & b) | (c"]:
            self.refused(parse_term, text)

    def test_hundreds_and_thousands_of_parentheses(self):
        for many in (5, 6, 10, 100, 499, 999, 1500, 1990):
            inside = ["", "a", "a & b"]
            for core in inside:
                self.refused(parse_term, "(" * many + core + ")" * many)
                self.refused(parse_term, "(" * many + core)
                self.refused(parse_term, core + ")" * many)
                self.refused(parse_term, ")" * many + core + "(" * many)
            self.refused(parse_term, "()" * many)
            self.refused(parse_term, "c & " + "(" * many + "a & b" + ")" * many)
        for many in (5, 100, 400, 570):
            self.refused(parse_term, "a & (" * many + "a & b" + ")" * many)
            self.refused(parse_term, "a & (" * many + "a & b")
            self.refused(parse_term, "(" * many + "a & b" + ") & a" * many)

    def test_changed_texts(self):
        texts = [samples.plain_text(term) for term in samples.terms()[::23]]
        self.assertTrue(len(texts) > 20)
        accepted = 0
        for text in texts:
            for other in changed_texts(text, ["a", "h", "i", " ", "&", "|", "(", ")", "\n", "<", "A"]):
                accepted += self.accepted_or_refused(parse_term, other, samples.plain_text)
        self.assertTrue(accepted > 0)

    def test_each_character_at_each_place(self):
        for text in ["a", "a & b", "(a & b) | c"]:
            for other in changed_texts(text, CHARACTERS):
                self.accepted_or_refused(parse_term, other, samples.plain_text)

    def test_all_short_texts(self):
        accepted = []
        for many in range(6):
            for parts in itertools.product("a&|() ", repeat=many):
                text = "".join(parts)
                if self.accepted_or_refused(parse_term, text, samples.plain_text):
                    accepted.append(text)
        self.assertEqual(accepted, ["a", "a & a", "a | a"])

    def test_spaces_and_parentheses_in_place(self):
        terms = [term for term in samples.terms()[::11] if isinstance(term, tuple)]
        for term in terms:
            text = samples.plain_text(term)
            for wrong in (f"({text})", f" {text}", f"{text} ", text.replace(" ", ""), text.replace(" ", "  "),
                          f"{text}\n", f"{text} &", f"({text}", f"{text})"):
                self.refused(parse_term, wrong)

    def test_random_strings(self):
        source = random.Random(9)
        pieces = ["a", "b", " & ", " | ", "(", ")", " ", "&", "h"]
        for _ in range(5000):
            text = "".join(source.choice(pieces) for _ in range(source.randint(0, 12)))
            self.accepted_or_refused(parse_term, text, samples.plain_text)


class IsName(unittest.TestCase):
    def test_lengths(self):
        for many in range(12):
            self.assertIs(is_name("a" * many), 1 <= many <= 6)
            self.assertIs(is_name("z" * many), 1 <= many <= 6)
        self.assertIs(is_name("a" * 4000), False)

    def test_every_letter(self):
        for letter in string.ascii_lowercase:
            self.assertIs(is_name(letter), True)
            self.assertIs(is_name("one" + letter), True)

    def test_every_other_character(self):
        for one in CHARACTERS:
            if one not in string.ascii_lowercase:
                for text in (one, one + "a", "a" + one, "a" + one + "b"):
                    self.assertIs(is_name(text), False, text)

    def test_edges(self):
        for text in ["", " ", "one ", " one", "one\n", "\n", "One", "onE", "a1", "a_b", "a-b", "abcdefg", "one two"]:
            self.assertIs(is_name(text), False, text)
        for text in ["one", "abcdef", "uvwxyz", "rule", "a", "zz"]:
            self.assertIs(is_name(text), True, text)


class Goals(TextCase):
    def goals(self):
        terms = samples.terms()
        return list(zip(terms[::3], terms[1::3]))

    def test_both_directions(self):
        for goal in self.goals():
            self.assertEqual(format_goal(goal), plain_goal_text(goal))
            self.assertEqual(parse_goal(plain_goal_text(goal)), goal)
        self.assertEqual(format_goal(("a", "a")), "a < a")
        self.assertEqual(parse_goal("(a & b) | c < d & e"), (("|", ("&", "a", "b"), "c"), ("&", "d", "e")))

    def test_invalid_goals(self):
        wrong = [None, True, 0, "", "a", "ab", "a < b", (), ("a",), ("a", "b", "c"), ["a", "b"], ("a", None),
                 (None, "a"), ("a", ["&", "a", "b"]), ("a", "i"), ("", "a"), ("&", "a", "b"), (("&", "a"), "b"),
                 (("a", "b"), ("c", "d")), ("one", "a", "b"), (("a", "b"),)]
        wrong += [(value, "a") for value in samples.no_long_terms() + samples.only_long_terms()]
        wrong += [("a", value) for value in samples.no_long_terms() + samples.only_long_terms()]
        wrong += [value for value in samples.random_values(500, seed=10)
                  if not (isinstance(value, tuple) and len(value) == 2 and all(map(is_plain_term, value)))]
        for value in wrong:
            with self.assertRaises(InvalidGoal):
                format_goal(value)

    def test_texts_that_are_no_goals(self):
        for text in ["", "<", " < ", "a <", "a < ", "< a", " < a", "a<b", "a <b", "a< b", "a  < b", "a <  b", "a < b ",
                     " a < b", "a < b\n", "a < b < c", "a <= b", "a > b", "(a) < b", "a < (b)", "(a < b)", "a & (b < c)",
                     "a < i", "i < a", "a & b | c < d", "a", "a & b", "one: a < b", "a < < b", "a << b", "a\n<\nb"]:
            self.refused(parse_goal, text)
        for many in (10, 500, 1900):
            for text in ("(" * many + "a & b" + ")" * many, "(" * many, ")" * many):
                self.refused(parse_goal, text)
                self.refused(parse_goal, "a < " + text)
                self.refused(parse_goal, text + " < a")
        for term in samples.only_long_terms()[:8]:
            self.refused(parse_goal, "a < " + samples.plain_text(term))
            self.refused(parse_goal, samples.plain_text(term) + " < a")

    def test_changed_texts(self):
        for goal in [("a", "b"), (("&", "a", "b"), "c")] + self.goals()[::31]:
            for other in changed_texts(plain_goal_text(goal), ["a", "i", " ", "<", "&", "(", ")", ":", "\n"]):
                self.accepted_or_refused(parse_goal, other, plain_goal_text)
        for other in changed_texts("a < b", CHARACTERS):
            self.accepted_or_refused(parse_goal, other, plain_goal_text)


class Rules(TextCase):
    def rules(self):
        terms = samples.terms()
        names = ["a", "one", "abcdef", "zz", "xyz", "rule"]
        return [(names[at % 6], left, right) for at, (left, right) in enumerate(zip(terms[::3], terms[2::3]))]

    def test_both_directions(self):
        for rule in self.rules():
            self.assertEqual(format_rule(rule), plain_rule_text(rule))
            self.assertEqual(parse_rule(plain_rule_text(rule)), rule)
        self.assertEqual(format_rule(("a", "a", "a")), "a: a < a")

    def test_what_is_not_a_rule(self):
        wrong = [None, False, 1, "", "one", "one: a < b", (), ("one",), ("one", "a"), ("a", "b"),
                 ("one", "a", "b", "c"), ["one", "a", "b"], ("One", "a", "b"), ("", "a", "b"), ("abcdefg", "a", "b"),
                 ("a b", "a", "b"), ("&", "a", "b"), (1, "a", "b"), (None, "a", "b"), (True, "a", "b"),
                 (["one"], "a", "b"), (("one",), "a", "b"), ("one", ("a", "b")), ("one", "a", "i"),
                 ("one", None, "a"), ("one", "a", ["&", "a", "b"])]
        wrong += [("one", value, "a") for value in samples.no_long_terms() + samples.only_long_terms()]
        wrong += [("one", "a", value) for value in samples.no_long_terms() + samples.only_long_terms()]
        wrong += [(value, "a", "b") for value in samples.no_long_terms() if not isinstance(value, str)]
        for value in wrong:
            with self.assertRaises(InvalidRules) as caught:
                format_rule(value)
            self.assertEqual(caught.exception.index, 0)

    def test_texts_that_are_no_rules(self):
        for text in ["", ":", ": ", "one", "one:", "one: ", "one: a", "one: a <", "a < b", ": a < b", "one:a < b",
                     "one : a < b", "one:  a < b", " one: a < b", "one: a < b ", "one: a < b\n", "\none: a < b",
                     "One: a < b", "abcdefg: a < b", "a1: a < b", "one two: a < b", "one: two: a < b", "one:: a < b",
                     "one: (a) < b", "one: a < b < c", "one: a & b | c < d", "one; a < b", "one a < b", "one: i < a",
                     "rule one: a < b", "one: a < b: c"]:
            self.refused(parse_rule, text)
        for many in (10, 500, 1900):
            for text in ("(" * many + "a & b" + ")" * many, "(" * many, ")" * many):
                self.refused(parse_rule, text)
                self.refused(parse_rule, "one: " + text)
                self.refused(parse_rule, "one: a < " + text)
                self.refused(parse_rule, text + ": a < b")

    def test_changed_texts(self):
        for rule in [("one", "a", "b"), ("abcdef", ("&", "a", "b"), "c")] + self.rules()[::31]:
            for other in changed_texts(plain_rule_text(rule), ["a", "z", "A", " ", "<", "&", "(", ":", "\n", "1"]):
                self.accepted_or_refused(parse_rule, other, plain_rule_text)
        for other in changed_texts("one: a < b", CHARACTERS):
            if self.accepted_or_refused(parse_rule, other, plain_rule_text):
                name = other.partition(":")[0]
                self.assertTrue(1 <= len(name) <= 6 and set(name) <= set(string.ascii_lowercase))


class Interface(unittest.TestCase):
    def test_all_are_defined_in_their_file(self):
        for name in ("is_name", "format_term", "parse_term", "format_goal", "parse_goal", "format_rule", "parse_rule"):
            self.assertEqual(getattr(module, name).__module__, "fivefault.syntax")

    def test_arguments_by_keyword(self):
        found = [is_name(text="one"), format_term(term="a"), parse_term(text="a"), format_goal(goal=("a", "b")),
                 parse_goal(text="a < b"), format_rule(rule=("one", "a", "b")), parse_rule(text="one: a < b")]
        self.assertEqual(found, [True, "a", "a", "a < b", ("a", "b"), "one: a < b", ("one", "a", "b")])

    def test_example(self):
        self.assertEqual([format_term(("|", ("&", "a", "b"), "c")), parse_rule("one: a < b & c")],
                         ["(a & b) | c", ("one", "a", ("&", "b", "c"))])

    def test_nothing_that_is_passed_is_modified(self):
        for value in samples.random_values(300, seed=11):
            before = repr(value)
            for function in (format_term, format_goal, format_rule):
                try:
                    function(value)
                except (InvalidTerm, InvalidGoal, InvalidRules):
                    pass
                self.assertEqual(repr(value), before)


if __name__ == "__main__":
    unittest.main()
