"""[5] and fivefault/rules.py: rule lists, vocabularies, and the errors of all functions with rules and a goal."""

import copy
import random
import unittest

from fivefault import rules as module
from fivefault.errors import InvalidGoal, InvalidRules, NameInUse, TooManyTerms
from fivefault.rules import check_rules, merged_rules, vocabulary
from tests import questions, samples

NAMES = questions.names(12)
TWELVE = [(name, "a", "b") for name in NAMES]


class CheckCase(unittest.TestCase):
    def refused(self, error, *arguments, function=check_rules, **fields):
        with self.assertRaises(error, msg=repr(arguments)[:200]) as caught:
            function(*arguments)
        for field, expected in fields.items():
            self.assertEqual(getattr(caught.exception, field), expected)


class CheckRules(CheckCase):
    def test_rule_lists(self):
        for rules in ([], (), TWELVE, tuple(TWELVE), TWELVE[:1], TWELVE[::-1], [("one", "a", "a")]):
            self.assertIsNone(check_rules(rules))
            self.assertIsNone(check_rules(rules, None))
            self.assertIsNone(check_rules(rules, ("a", ("|", "b", "c"))))
            self.assertIsNone(check_rules(goal=("a", "b"), rules=rules))
        for rules, goal in questions.all_questions():
            self.assertIsNone(check_rules(rules, goal))
            self.assertIsNone(check_rules(rules))

    def test_equal_terms_under_different_names(self):
        self.assertIsNone(check_rules([("a", "a", "b"), ("b", "a", "b"), ("c", "b", "a")]))

    def test_more_than_twelve(self):
        thirteen = [*TWELVE, ("last", "a", "b")]
        for rules in (thirteen, tuple(thirteen), thirteen * 2, thirteen * 30, [None] * 13, [("one", "a", "b")] * 13,
                      [1, *TWELVE], [*TWELVE, None]):
            self.refused(InvalidRules, rules, index=12)
            self.refused(InvalidRules, rules, None, index=12)
            self.refused(InvalidRules, rules, "no goal", index=12)

    def test_what_is_not_a_rule_at_each_index(self):
        for wrong in questions.WRONG_RULES:
            for at in range(12):
                rules = TWELVE[:at] + [wrong] + TWELVE[at + 1:]
                self.refused(InvalidRules, rules, index=at)
                self.refused(InvalidRules, rules[:at + 1], index=at)
                self.refused(InvalidRules, tuple(rules), ("a", "b"), index=at)

    def test_the_first_wrong_index_counts(self):
        for at in range(11):
            rules = TWELVE[:at] + [None, 5] + TWELVE[at + 2:]
            self.refused(InvalidRules, rules, index=at)

    def test_values_of_all_kinds_as_rules(self):
        for value in questions.nested_values(150, seed=41):
            if not (isinstance(value, tuple) and len(value) == 3 and questions.is_plain_name(value[0])
                    and all(questions.is_plain_term(side) for side in value[1:])):
                self.refused(InvalidRules, [("one", "a", "b"), value], index=1)

    def test_names_that_stand_twice(self):
        for first in range(12):
            for second in range(first + 1, 12):
                for rule in ((NAMES[first], "a", "b"), (NAMES[first], "c", ("&", "a", "b"))):
                    rules = TWELVE[:second] + [rule] + TWELVE[second + 1:]
                    self.refused(InvalidRules, rules, index=second)
        self.refused(InvalidRules, [("one", "a", "b"), ("one", "a", "b"), None], index=1)
        self.refused(InvalidRules, [("one", "a", "b"), None, ("one", "a", "b")], index=1)

    def test_goals(self):
        for goal in [None, ("a", "b"), ("a", "a"), (("&", "a", "b"), "h"), (samples.tower(5), samples.row(24))]:
            if goal is None or len(questions.plain_vocabulary([], goal)) <= 24:
                self.assertIsNone(check_rules([], goal))

    def test_wrong_goals(self):
        for goal in questions.WRONG_GOALS:
            self.refused(InvalidGoal, [], goal)
            self.refused(InvalidGoal, TWELVE, goal)
        for value in questions.nested_values(150, seed=42):
            if value is not None and not (isinstance(value, tuple) and len(value) == 2
                                          and all(questions.is_plain_term(side) for side in value)):
                self.refused(InvalidGoal, [], value)

    def test_vocabularies_of_24_and_more_terms(self):
        for count in range(12, 33):
            rules = questions.rules_with(count)
            if count <= 24:
                self.assertIsNone(check_rules(rules))
                self.assertIsNone(check_rules(rules, ("a", rules[0][1])))
            else:
                self.refused(TooManyTerms, rules, count=count)
                self.refused(TooManyTerms, rules, ("a", "b"), count=count)

    def test_a_goal_that_makes_the_vocabulary_too_large(self):
        for count in range(20, 28):
            rules = questions.rules_with(count)
            goal = (("&", "a", "c"), ("&", ("&", "a", "c"), ("|", "h", "h", "h")))
            total = count + 3
            if total <= 24:
                self.assertIsNone(check_rules(rules, goal))
            else:
                self.refused(TooManyTerms, rules, goal, count=total)

    def test_large_counts(self):
        source = random.Random(43)
        for _ in range(20):
            pool = [samples.random_term(source, 5, 24) for _ in range(26)]
            rules = [(name, pool[at], pool[at + 12]) for at, name in enumerate(NAMES)]
            goal = (pool[24], pool[25])
            for asked in (None, goal):
                count = len(questions.plain_vocabulary(rules, asked))
                if count > 24:
                    self.refused(TooManyTerms, rules, asked, count=count)

    def test_order_of_the_errors(self):
        wide = questions.rules_with(25)
        thirteen = [*TWELVE, ("last", "a", "b")]
        self.refused(InvalidRules, [None, *thirteen], 5, index=12)
        self.refused(InvalidRules, [*wide, None], 5, index=len(wide))
        self.refused(InvalidGoal, wide, 5)
        self.refused(TooManyTerms, wide, None, count=25)

    def test_a_value_that_is_no_list(self):
        for value in (None, 0, True, "one"):
            self.refused(InvalidRules, value)

    def test_arguments_stay_as_they_were(self):
        for rules, goal in questions.all_questions()[::5]:
            kept = list(rules)
            check_rules(rules, goal)
            vocabulary(rules, goal)
            merged_rules(rules, rules)
            self.assertEqual(rules, kept)
        for value in questions.nested_values(50, seed=44):
            rules = [("one", "a", "b"), value, None]
            kept = copy.deepcopy(rules)
            self.assertRaises(InvalidRules, check_rules, rules, value)
            self.assertEqual(rules, kept)

    def test_constants(self):
        self.assertEqual([module.MAX_RULES, module.MAX_TERMS], [12, 24])


class Vocabulary(CheckCase):
    def test_all_subterms_once_in_order(self):
        for rules, goal in questions.all_questions():
            self.assertEqual(vocabulary(rules, goal), questions.plain_vocabulary(rules, goal))
            self.assertEqual(vocabulary(rules), questions.plain_vocabulary(rules))
            self.assertEqual(vocabulary(tuple(rules), goal=goal), questions.plain_vocabulary(rules, goal))

    def test_examples(self):
        self.assertEqual(vocabulary([]), [])
        self.assertEqual(vocabulary([], ("b", "a")), ["a", "b"])
        found = vocabulary([("one", ("|", ("&", "b", "a"), "c"), "c")], ("a", ("&", "b", "a")))
        self.assertEqual(found, [("|", ("&", "b", "a"), "c"), "a", "b", ("&", "b", "a"), "c"])

    def test_a_new_list_each_time(self):
        rules = [("one", "a", "b")]
        found = vocabulary(rules, ("a", "b"))
        found.append("x")
        self.assertEqual(vocabulary(rules, ("a", "b")), ["a", "b"])
        self.assertIs(type(found), list)

    def test_errors(self):
        self.refused(InvalidRules, [None], function=vocabulary, index=0)
        self.refused(InvalidRules, [*TWELVE, ("last", "a", "b")], function=vocabulary, index=12)
        self.refused(InvalidGoal, TWELVE, ("a",), function=vocabulary)
        self.refused(TooManyTerms, questions.rules_with(25), function=vocabulary, count=25)
        self.assertEqual(len(vocabulary(questions.rules_with(24))), 24)


class MergedRules(CheckCase):
    def plainly(self, lists):
        found = []
        for rules in lists:
            for rule in rules:
                if rule in found:
                    continue
                if rule[0] in [other[0] for other in found]:
                    return rule[0]
                found.append(rule)
        return found

    def test_none_to_four_lists(self):
        self.assertEqual(merged_rules(), [])
        self.assertEqual(merged_rules([]), [])
        self.assertEqual(merged_rules([], (), [], []), [])
        one, two, three = ("one", "a", "b"), ("two", "b", "c"), ("three", "a", "c")
        self.assertEqual(merged_rules([one]), [one])
        self.assertEqual(merged_rules([one], (two,)), [one, two])
        self.assertEqual(merged_rules([two, one], [one, two]), [two, one])
        self.assertEqual(merged_rules([one], [one, two], [three, one], [two]), [one, two, three])
        self.assertEqual(merged_rules([one, one], [one]), [one])

    def test_a_name_that_is_in_use(self):
        one, other, more = ("one", "a", "b"), ("one", "a", "c"), ("two", "a", "b")
        for lists in ([[one], [other]], [[one, other]], [[more], [one], [more], [other, None]],
                      [[one, one, other], [("two", "b", "b"), more]]):
            self.refused(NameInUse, *lists, function=merged_rules, name="one")
        self.refused(NameInUse, [one, more], [("two", "b", "b"), other], function=merged_rules, name="two")
        self.refused(NameInUse, [one], [("one", "b", "a")], function=merged_rules, name="one")

    def test_random_lists(self):
        source = random.Random(45)
        errors = 0
        for _ in range(500):
            pool = [(source.choice(NAMES), *source.choice([("a", "b"), ("a", "b"), ("a", "b"), ("b", "a")]))
                    for _ in range(12)]
            lists = [source.choices(pool, k=source.randint(0, 4)) for _ in range(source.randint(0, 4))]
            kept = [list(rules) for rules in lists]
            expected = self.plainly(lists)
            if isinstance(expected, str):
                self.refused(NameInUse, *lists, function=merged_rules, name=expected)
                errors += 1
            else:
                self.assertEqual(merged_rules(*lists), expected)
            self.assertEqual(lists, kept)
        self.assertTrue(50 < errors < 450)

    def test_errors_of_the_result(self):
        self.assertEqual(merged_rules(TWELVE, TWELVE, TWELVE), TWELVE)
        self.assertEqual(merged_rules(TWELVE * 30), TWELVE)
        self.refused(InvalidRules, TWELVE, [("last", "a", "b")], function=merged_rules, index=12)
        self.refused(InvalidRules, [("last", "a", "b")], TWELVE, [("more", "a", "b")], function=merged_rules, index=12)
        rules = questions.rules_with(25)
        self.assertEqual(merged_rules(rules[:6], rules[:3]), rules[:6])
        self.refused(TooManyTerms, rules[:6], rules[6:], function=merged_rules, count=25)
        self.refused(NameInUse, rules, [(rules[0][0], "a", "b")], function=merged_rules, name=rules[0][0])
        self.refused(NameInUse, TWELVE, [("last", "a", "b"), (NAMES[0], "b", "a")], function=merged_rules,
                     name=NAMES[0])

    def test_a_new_list_each_time(self):
        rules = [("one", "a", "b")]
        found = merged_rules(rules)
        found.append(1)
        self.assertEqual(rules, [("one", "a", "b")])
        self.assertEqual(merged_rules(rules), rules)


class Interface(unittest.TestCase):
    def test_all_are_defined_in_their_file(self):
        for name in ("check_rules", "vocabulary", "merged_rules"):
            self.assertEqual(getattr(module, name).__module__, "fivefault.rules")


if __name__ == "__main__":
    unittest.main()
