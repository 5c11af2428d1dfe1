"""[9], [12], [13] and fivefault/cases.py: cases, truth and trees."""

import copy
import itertools
import random
import unittest

from fivefault import cases as module
from fivefault.boards import Board
from fivefault.cases import case_tree, cases, first_case, is_tree, truth
from fivefault.errors import InvalidGoal, InvalidRules, InvalidTerm, TooManyTerms
from tests import orders, questions, samples
from tests.verdicts import is_plain_tree, plain_breaks, plain_cases, plain_truth, question_letters

AB = ("&", "a", "b")
A_OR_B = ("|", "a", "b")


def with_trees():
    """Questions with a tree, and their trees."""
    found = [(rules, goal, case_tree(rules, goal)) for rules, goal in questions.all_questions()]
    return [row for row in found if row[2] is not None]


def full_tree(rules, goal, letters, case):
    """A tree that asks for all letters, in an order of its own, before it ends."""
    if not letters:
        broken = [rule[0] for rule in rules if plain_breaks(case, *rule[1:])]
        return ("rule", broken[-1]) if broken else ("goal",)
    return (letters[0], full_tree(rules, goal, letters[1:], {**case, letters[0]: False}),
            full_tree(rules, goal, letters[1:], {**case, letters[0]: True}))


class Truth(unittest.TestCase):
    def test_examples(self):
        for term, case, expected in [("a", {}, None), ("a", {"a": True}, True), ("a", {"a": False}, False),
                                     ("a", {"b": True}, None), (AB, {"a": False}, False), (AB, {"b": False}, False),
                                     (AB, {"a": True}, None), (AB, {"a": True, "b": True}, True), (AB, {}, None),
                                     (A_OR_B, {"a": True}, True), (A_OR_B, {"b": True}, True),
                                     (A_OR_B, {"a": False}, None), (A_OR_B, {"a": False, "b": False}, False),
                                     (("|", AB, "c"), {"c": False}, None), (("|", AB, "c"), {"a": False}, None),
                                     (("|", AB, "c"), {"a": False, "c": False}, False),
                                     (("|", "a", "a", "b"), {"b": True}, True), (("&", "a", "a"), {"a": True}, True)]:
            self.assertIs(truth(term, case), expected)

    def test_all_some_and_none_of_the_letters(self):
        source = random.Random(100)
        terms = samples.terms()[::4] + samples.only_long_terms()[::3]
        for term in terms:
            for many in (0, 1, 3, 5, 8):
                case = {letter: source.random() < 0.5 for letter in source.sample(samples.LETTERS, many)}
                kept = dict(case)
                self.assertIs(truth(term, case), plain_truth(term, case))
                self.assertEqual(case, kept)
        self.assertIs(truth(case={"a": True}, term="a"), True)

    def test_all_cases_of_small_terms(self):
        for term in samples.small_terms()[::6]:
            for values in itertools.product([True, False, None], repeat=2):
                case = {letter: value for letter, value in zip("ab", values) if value is not None}
                self.assertIs(truth(term, case), plain_truth(term, case))

    def test_invalid_terms(self):
        for value in samples.no_long_terms():
            self.assertRaises(InvalidTerm, truth, value, {})
            self.assertRaises(InvalidTerm, truth, value, {"a": True})


class Cases(unittest.TestCase):
    def test_all_cases_in_order(self):
        counts = set()
        for rules, goal in questions.all_questions():
            expected = plain_cases(rules, goal)
            self.assertEqual(list(cases(rules, goal)), expected)
            self.assertEqual(first_case(rules, goal), expected[0] if expected else None)
            counts.add(len(expected) > 1)
            for case in expected:
                self.assertEqual(sorted(case), question_letters(rules, goal))
        self.assertEqual(counts, {True, False})

    def test_values_are_true_and_false(self):
        for case in cases([], ("a", ("&", "b", "c"))):
            self.assertTrue(all(value is True or value is False for value in case.values()))

    def test_examples(self):
        self.assertEqual(list(cases([], ("a", "b"))), [{"a": True, "b": False}])
        self.assertEqual(list(cases([], ("a", "a"))), [])
        self.assertEqual(list(cases([("x", "a", "b")], ("b", "a"))), [{"a": False, "b": True}])
        self.assertEqual(list(cases([("x", "c", "c")], ("a", "b"))),
                         [{"a": True, "b": False, "c": False}, {"a": True, "b": False, "c": True}])
        self.assertEqual(first_case([], ("h", "b")), {"b": False, "h": True})

    def test_each_case_is_a_new_dict(self):
        found = cases([("x", "c", "c")], ("a", "b"))
        next(found).clear()
        self.assertEqual(next(found), {"a": True, "b": False, "c": True})
        first_case([], ("a", "b")).clear()
        self.assertEqual(first_case([], ("a", "b")), {"a": True, "b": False})

    def test_the_rules_may_be_changed_meanwhile(self):
        rules = [("x", "c", "d")]
        expected = plain_cases(rules, ("a", "b"))
        found = cases(rules, ("a", "b"))
        first = next(found)
        rules.append(("y", "b", "b"))
        rules[0] = None
        self.assertEqual([first, *found], expected)

    def test_errors_when_the_first_is_asked_for(self):
        for error, arguments in [(InvalidRules, ([None], ("a", "b"))), (InvalidGoal, ([], None)),
                                 (InvalidGoal, (questions.rules_with(25), None)),
                                 (TooManyTerms, (questions.rules_with(25), ("a", "b")))]:
            found = cases(*arguments)
            with self.assertRaises(error):
                next(found)
            self.assertRaises(error, first_case, *arguments)

    def test_eight_letters(self):
        goal = (("&", *"abcdefg"), "h")
        self.assertEqual(list(cases([], goal)), [{**{letter: True for letter in "abcdefg"}, "h": False}])
        self.assertEqual(len(list(cases([], (("|", *"abcdefg"), "h")))), 127)


class Trees(unittest.TestCase):
    def test_exactly_one_of_tree_and_case(self):
        kinds = {True: 0, False: 0}
        for rules, goal in questions.all_questions():
            tree = case_tree(rules, goal)
            kinds[tree is None] += 1
            self.assertNotEqual(tree is None, first_case(rules, goal) is None)
            if tree is not None:
                self.assertTrue(is_plain_tree(rules, goal, tree))
                self.assertIs(is_tree(rules, goal, tree), True)
        self.assertTrue(min(kinds.values()) > 30)

    def test_examples(self):
        self.assertIsNone(case_tree([], ("a", "b")))
        for rules, goal in [([], ("a", "a")), (questions.PENTAGON), ([("x", "a", "b")], ("a", "b")),
                            ([("x", "a", "b"), ("y", "b", "c")], ("a", ("|", "c", "d")))]:
            self.assertTrue(is_plain_tree(rules, goal, case_tree(rules, goal)))

    def test_eight_letters(self):
        rules = [(name, "abcdefg"[at], "bcdefgh"[at]) for at, name in enumerate(questions.names(7))]
        goal = (("&", "a", ("|", *"bcdefgh")), ("|", *[("&", "a", letter) for letter in "bcdefgh"]))
        for asked in ([], rules):
            self.assertTrue(is_plain_tree(asked, goal, case_tree(asked, goal)))

    def test_trees_that_ask_for_more(self):
        source = random.Random(101)
        for rules, goal, tree in with_trees()[::2]:
            letters = question_letters(rules, goal)
            source.shuffle(letters)
            if len(letters) <= 6:
                self.assertIs(is_tree(rules, goal, full_tree(rules, goal, letters, {})), True)
            rest = [letter for letter in samples.LETTERS if letter not in letters]
            if rest:
                self.assertIs(is_tree(rules, goal, (rest[0], tree, tree)), True)
                self.assertIs(is_tree(rules, goal, (rest[0], (rest[0], tree, tree), tree)), False)

    def test_a_letter_twice(self):
        self.assertIs(is_tree([], ("a", "a"), ("a", ("goal",), ("goal",))), True)
        self.assertIs(is_tree([], ("a", "a"), ("a", ("a", ("goal",), ("goal",)), ("goal",))), False)
        self.assertIs(is_tree([], ("a", "a"), ("b", ("a", ("goal",), ("goal",)), ("a", ("goal",), ("goal",)))), True)
        self.assertIs(is_tree([], ("a", "a"), ("goal",)), False)

    def test_broken_and_kept_one_by_one(self):
        rules = [("x", "a", "b")]
        for tree, expected in [(("a", ("goal",), ("b", ("rule", "x"), ("goal",))), True),
                               (("b", ("a", ("goal",), ("rule", "x")), ("goal",)), True),
                               (("a", ("goal",), ("b", ("goal",), ("goal",))), False),
                               (("a", ("rule", "x"), ("b", ("rule", "x"), ("goal",))), False),
                               (("a", ("goal",), ("b", ("rule", "y"), ("goal",))), False),
                               (("a", ("goal",), ("b", ("rule", ""), ("goal",))), False),
                               (("a", ("goal",), ("b", ("rule",), ("goal",))), False),
                               (("a", ("goal",), ("rule", "x")), False),
                               (("rule", "x"), False), (("goal",), False), ((), False), (("a",), False)]:
            self.assertIs(is_tree(rules, ("a", "b"), tree), expected)

    def same_verdict(self, rules, goal, tree):
        expected = is_plain_tree(rules, goal, tree)
        kept = copy.deepcopy(tree)
        self.assertIs(is_tree(rules, goal, tree), expected, repr((rules, goal, tree))[:600])
        self.assertEqual(tree, kept)
        return expected

    def exchanged(self, tree):
        """All trees in which two branches are exchanged somewhere."""
        if len(tree) == 3:
            letter, one, other = tree
            yield (letter, other, one)
            yield from [(letter, more, other) for more in self.exchanged(one)]
            yield from [(letter, one, more) for more in self.exchanged(other)]

    def test_branches_exchanged(self):
        for rules, goal, tree in with_trees():
            for other in list(self.exchanged(tree))[:30]:
                self.same_verdict(rules, goal, other)

    def test_other_letters_names_and_forms(self):
        source = random.Random(102)
        accepted = 0
        for rules, goal, tree in with_trees():
            for _ in range(30):
                other = self.changed(source, tree, rules)
                accepted += self.same_verdict(rules, goal, other)
                accepted += self.same_verdict(rules, goal, questions.swapped(source, tree))
        self.assertTrue(accepted > 50)

    def changed(self, source, tree, rules):
        """A tree with another letter, name or form at one place."""
        if isinstance(tree, tuple) and len(tree) == 3 and source.random() < 0.7:
            letter, one, other = tree
            if source.random() < 0.5:
                return (letter, self.changed(source, one, rules), other)
            return (letter, one, self.changed(source, other, rules))
        others = [("goal",), ("rule", "x"), ("rule", None), ("rule", ["a"]), ("rule", ("a",)), ("goal", "a"), ("goal",),
                  "goal", ["goal"], ["rule", "a"], ("Goal",), None, 5, True, (), ("rule", "a", "b"), ("i", tree, tree),
                  ("", tree, tree), ("ab", tree, tree), (None, tree, tree), (["a"], tree, tree), (True, tree, tree),
                  list(tree), *[("rule", rule[0]) for rule in rules],
                  *[(letter, tree, tree) for letter in samples.LETTERS]]
        return source.choice(others)

    def test_nested_values(self):
        for value in questions.nested_values(2500, seed=103):
            self.same_verdict([("one", "a", "b")], ("a", "b"), value)
            self.same_verdict([("one", "a", "b")], ("a", "a"), ("a", ("goal",), value))
            self.same_verdict([("one", "a", "b")], ("a", "a"), ("a", ("goal",), ("b", ("rule", value), ("goal",))))
            self.same_verdict([], ("a", "a"), (value, ("goal",), ("goal",)))

    def test_deep_values(self):
        tree = ("goal",)
        for letter in "hgfedcba":
            tree = (letter, tree, tree)
        self.assertIs(is_tree([], ("a", "a"), tree), True)
        for letter in "abcd":
            tree = (letter, tree, tree)
            self.assertIs(is_tree([], ("a", "a"), tree), False)

    def test_for_other_rules_and_goals(self):
        rows = with_trees()
        for (rules, goal, tree), (other, more, rest) in zip(rows, rows[1:] + rows[:1]):
            self.same_verdict(other, more, tree)
            self.same_verdict(rules[:-1], goal, tree)
            self.same_verdict(rules, goal[::-1], tree)


class KeptOnBoards(unittest.TestCase):
    """[9]: a goal with a tree is kept on all boards that spread by the readings that keep the rules."""

    def test_goals_with_a_tree(self):
        boards = [rows for rows in orders.small_boards() if orders.Tables(rows).spreads()][::2]
        self.assertTrue(len(boards) > 8)
        source = random.Random(104)
        asked = 0
        for rules, goal, tree in with_trees():
            letters = question_letters(rules, goal)
            if len(letters) > 4:
                continue
            for rows in source.sample(boards, 3):
                board = Board(rows)
                for reading in itertools.islice(board.readings(*letters), 300):
                    if all(board.keeps(*rule[1:], reading) for rule in rules):
                        self.assertIs(board.keeps(*goal, reading), True)
                        asked += 1
        self.assertTrue(asked > 500)

    def test_a_case_is_a_reading_of_a_chain_with_two_places(self):
        board = Board.chain(2)
        for rules, goal in questions.all_questions():
            case = first_case(rules, goal)
            if case is not None:
                reading = {letter: 1 if case[letter] else 0 for letter in case}
                self.assertTrue(all(board.keeps(*rule[1:], reading) for rule in rules))
                self.assertIs(board.keeps(*goal, reading), False)


class Interface(unittest.TestCase):
    def test_all_are_defined_in_their_file(self):
        for name in ("truth", "cases", "first_case", "case_tree", "is_tree"):
            self.assertEqual(getattr(module, name).__module__, "fivefault.cases")

    def test_cases_is_a_generator(self):
        found = cases(rules=[], goal=("a", "b"))
        self.assertIs(iter(found), found)
        self.assertEqual(next(found), {"a": True, "b": False})

    def test_arguments_by_keyword(self):
        self.assertEqual(first_case(rules=[], goal=("a", "b")), {"a": True, "b": False})
        tree = case_tree(rules=[], goal=("a", "a"))
        self.assertIs(is_tree(rules=[], goal=("a", "a"), tree=tree), True)


if __name__ == "__main__":
    unittest.main()
