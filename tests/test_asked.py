"""[2], [5]: all functions with the parameters rules and goal raise the errors of check_rules first."""

import copy
import itertools
import random
import time
import unittest

from fivefault import answers, cases, completions, cores, derivations, rules as rule_lists, tables
from fivefault.errors import InvalidCertificate, InvalidGoal, InvalidRules, TooManyPlaces, TooManyTerms
from tests import questions

# Functions with a goal that may be left out, and functions that need one, with what they are passed behind it.
FREE = [(rule_lists.check_rules, []), (rule_lists.vocabulary, []), (tables.under_pairs, []),
        (completions.completion, [])]
ASKED = [(tables.table_of, []), (tables.is_table, ["table"]), (derivations.derive, []),
         (derivations.is_derivation, ["steps"]), (cases.cases, []), (cases.first_case, []), (cases.case_tree, []),
         (cases.is_tree, ["tree"]), (answers.answer, []), (answers.Always, ["steps"]),
         (answers.Spreading, ["tree", "table"]), (answers.Never, ["case"]), (cores.core, []),
         (cores.core_certificate, []), (answers.answer([], ("a", "a")).is_right_for, []),
         (answers.answer(*questions.PENTAGON).is_right_for, []), (answers.answer([], ("a", "b")).is_right_for, [])]
THIRTEEN = [(name, "a", "b") for name in [*questions.names(12), "last"]]
OTHERS = [None, [], (), "x", 5, True, [None], (("a", "b"),), [("a", "b", ("same",))]]


def called(function, *arguments, **more):
    """The result of a call; that of a generator is what it yields."""
    try:
        found = function(*arguments, **more)
    except TooManyPlaces:
        return "too many places"
    except InvalidCertificate:
        return "no certificate"
    return list(found) if hasattr(found, "__next__") else found


class ErrorsFirst(unittest.TestCase):
    def refused(self, error, function, more, rules, goal, **fields):
        for other in OTHERS if more else [None]:
            with self.subTest(function=function.__name__, other=other):
                kept = copy.deepcopy((rules, goal, other))
                with self.assertRaises(error) as caught:
                    called(function, rules, goal, *[other for _ in more])
                for field, expected in fields.items():
                    self.assertEqual(getattr(caught.exception, field), expected)
                self.assertEqual((rules, goal, other), kept)

    def test_single_rules(self):
        for function, more in FREE + ASKED:
            for goal in (None, ("a", "b"), 5, ["a", "b"], ("a",)):
                self.refused(InvalidRules, function, more, THIRTEEN, goal, index=12)
                self.refused(InvalidRules, function, more, [None, *THIRTEEN], goal, index=12)
                self.refused(InvalidRules, function, more, [None], goal, index=0)
                self.refused(InvalidRules, function, more, THIRTEEN[:1] * 2, goal, index=1)
                self.refused(InvalidRules, function, more, (*questions.rules_with(25), []), goal, index=9)

    def test_wrong_goals(self):
        for function, more in FREE + ASKED:
            for goal in questions.WRONG_GOALS:
                self.refused(InvalidGoal, function, more, [], goal)
                self.refused(InvalidGoal, function, more, questions.rules_with(25), goal)

    def test_a_goal_of_none(self):
        for function, more in ASKED:
            for rules in ([], THIRTEEN[:12], questions.rules_with(24), questions.rules_with(25)):
                self.refused(InvalidGoal, function, more, rules, None)
        for function, more in FREE:
            self.assertEqual(called(function, THIRTEEN[:2], None), called(function, THIRTEEN[:2]))
            self.refused(TooManyTerms, function, more, questions.rules_with(25), None, count=25)

    def test_too_many_terms(self):
        for function, more in FREE + ASKED:
            for count in (25, 30, 32):
                self.refused(TooManyTerms, function, more, questions.rules_with(count), ("a", "b"), count=count)
            goal = (("&", "a", "c"), ("&", "a", "d"))
            self.refused(TooManyTerms, function, more, questions.rules_with(23), goal, count=25)

    def test_right_arguments_stay_as_they_were_and_may_be_tuples(self):
        for function, more in FREE + ASKED:
            for rules, goal in questions.all_questions()[::12]:
                kept = list(rules)
                first = called(function, rules, goal, *[[] for _ in more])
                self.assertEqual(rules, kept)
                self.assertEqual(called(function, tuple(rules), goal, *[() for _ in more]), first)
                self.assertEqual(called(function, rules, goal, *[[] for _ in more]), first)

    def test_the_goal_by_keyword(self):
        for function, more in FREE + ASKED:
            for rules, goal in questions.all_questions()[::40]:
                first = called(function, rules, goal, *[[] for _ in more])
                self.assertEqual(called(function, goal=goal, rules=rules, **{word: [] for word in more}), first)

    def test_two_faults_the_same_first_error_from_all(self):
        """Rule lists and goals with one or two faults, put together in all ways."""
        source = random.Random(51)
        rule_faults = [[], [("one", "a", "b"), None], [("one", "a", "b")] * 2, [None, ("x", "a")], THIRTEEN,
                       [*THIRTEEN[:11], ("bad", "a", "i")], questions.rules_with(25), questions.rules_with(24)]
        goals = [None, ("a", "b"), ("a", "i"), ["a", "b"], 5, ("a",), (("&", "a", "c"), ("&", "a", "d"))]
        rule_faults += [[*rules, source.choice(questions.WRONG_RULES)] for rules in rule_faults]
        for rules, goal in itertools.product(rule_faults, goals):
            expected = self.first_error(rule_lists.check_rules, [], rules, goal)
            for function, more in FREE + ASKED:
                found = self.first_error(function, more, rules, goal)
                if goal is None and expected[0] != "InvalidRules" and (function, more) in ASKED:
                    self.assertEqual(found, ("InvalidGoal", {"code": "InvalidGoal"}))
                else:
                    self.assertEqual(found, expected, (function, rules, goal))

    def first_error(self, function, more, rules, goal):
        """The code and the fields of the error of a call, if it is one of check_rules."""
        try:
            called(function, rules, goal, *[None for _ in more])
        except (InvalidRules, InvalidGoal, TooManyTerms) as error:
            return error.code, vars(error)
        return "none", {}

    def test_quick_at_the_largest_questions(self):
        asked = [questions.full_question()] + questions.random_questions(6, seed=50, many=24, rules=12)
        for function, more in FREE + ASKED:
            for rules, goal in asked:
                before = time.perf_counter()
                called(function, rules, goal, *[[] for _ in more])
                self.assertLess(time.perf_counter() - before, 3, function.__name__)


if __name__ == "__main__":
    unittest.main()
