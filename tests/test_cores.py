"""[19] and fivefault/cores.py: minimal rule lists."""

import copy
import random
import time
import unittest

from fivefault import cores as module
from fivefault.answers import answer
from fivefault.cores import core, core_certificate
from fivefault.derivations import used_rules
from tests import questions, verdicts


def plain_core(rules, goal):
    """[19], sentence by sentence."""
    if verdicts.plain_kind(rules, goal) != "always":
        return None
    left = list(rules)
    for name in sorted(rule[0] for rule in rules):
        rest = [rule for rule in left if rule[0] != name]
        if verdicts.plain_kind(rest, goal) == "always":
            left = rest
    return sorted(rule[0] for rule in left)


class Cores(unittest.TestCase):
    def check(self, rules, goal):
        kept = copy.deepcopy((rules, goal))
        expected = plain_core(rules, goal)
        names = core(rules, goal)
        self.assertEqual(names, expected)
        found = core_certificate(rules, goal)
        self.assertEqual((rules, goal), kept)
        if expected is None:
            self.assertIsNone(found)
            return None
        self.assertIs(type(names), list)
        self.assertIs(type(found), tuple)
        self.assertEqual([type(part) for part in found], [list, list, list])
        self.assertEqual(found[0], expected)
        left = [rule for rule in rules if rule[0] in expected]
        self.assertTrue(questions.is_plain_derivation(left, goal, found[1]))
        self.assertEqual(used_rules(found[1]), expected)
        self.assertEqual([pair[0] for pair in found[2]], expected)
        for pair in found[2]:
            self.assertEqual([type(pair), len(pair), type(pair[1])], [tuple, 2, list])
            rest = [rule for rule in left if rule[0] != pair[0]]
            self.assertTrue(questions.is_plain_table(rest, goal, pair[1]))
        return names

    def test_many_questions(self):
        sizes = set()
        for rules, goal in verdicts.all_questions()[::2]:
            found = self.check(rules, goal)
            if found is not None:
                sizes.add(len(found))
        self.assertTrue({0, 1, 2, 3} <= sizes, sizes)

    def test_other_orders(self):
        source = random.Random(180)
        for rules, goal in verdicts.all_questions()[::3]:
            self.assertEqual(core(source.sample(rules, len(rules)), goal), core(rules, goal))
            self.assertEqual(core(tuple(rules), goal), core(rules, goal))

    def test_names_decide_which_rules_are_left_out(self):
        rules = [("b", "a", "c"), ("a", "a", "b"), ("c", "b", "c")]
        self.assertEqual(self.check(rules, ("a", "c")), ["b"])
        rules = [("z", "a", "c"), ("m", "a", "b"), ("y", "b", "c")]
        self.assertEqual(self.check(rules, ("a", "c")), ["z"])
        rules = [("a", "a", "c"), ("m", "a", "b"), ("y", "b", "c")]
        self.assertEqual(self.check(rules, ("a", "c")), ["m", "y"])
        rules = [("aa", "a", "b"), ("b", "a", "b"), ("ab", "a", "b")]
        self.assertEqual(self.check(rules, ("a", "b")), ["b"])

    def test_examples(self):
        self.assertEqual(core([], ("a", "a")), [])
        self.assertEqual(core_certificate([("x", "a", "b")], ("a", "a")), ([], [("a", "a", ("same",))], []))
        self.assertIsNone(core([], ("a", "b")))
        self.assertIsNone(core_certificate([], ("a", "b")))
        self.assertIsNone(core(*questions.PENTAGON))
        self.assertIsNone(core_certificate(*questions.PENTAGON))
        found = core_certificate(rules=[("x", "a", "b"), ("y", "b", "a")], goal=("a", "b"))
        self.assertEqual(found, (["x"], [("a", "b", ("rule", "x"))], [("x", [("a", "a"), ("b", "b")])]))

    def test_chains_need_all_their_rules(self):
        for length in range(1, 8):
            rules, goal = questions.chain_question(length)
            self.assertEqual(self.check(rules, goal), sorted(rule[0] for rule in rules))

    def test_terms_of_rules_that_are_left_out(self):
        # The terms of a rule are there as long as the rule is; without it they are not needed.
        rules = [("a", ("&", "a", "b"), ("|", "c", "d")), ("b", "a", "b")]
        self.assertEqual(self.check(rules, ("a", "b")), ["b"])

    def test_the_largest_questions(self):
        asked = [questions.full_question()] + questions.random_questions(8, seed=181, many=24, rules=12)
        asked += questions.random_questions(4, seed=182, many=24, rules=12, letters="abcdefgh")
        for rules, goal in asked:
            before = time.perf_counter()
            core(rules, goal)
            core_certificate(rules, goal)
            self.assertLess(time.perf_counter() - before, 5)
            self.check(rules, goal)

    def test_none_exactly_if_the_answer_is_another_one(self):
        for rules, goal in verdicts.all_questions():
            self.assertIs(core(rules, goal) is None, answer(rules, goal).kind != "always")

    def test_everything_returned_is_new(self):
        rules = [("x", "a", "b"), ("y", "b", "c")]
        kept = core_certificate(rules, ("a", "c"))
        for names in (core(rules, ("a", "c")), core_certificate(rules, ("a", "c"))[0]):
            names.clear()
        names, steps, tables = core_certificate(rules, ("a", "c"))
        tables[0][1].clear()
        tables.clear()
        steps.clear()
        self.assertEqual(core_certificate(rules, ("a", "c")), kept)
        self.assertEqual(core(rules, ("a", "c")), ["x", "y"])

    def test_all_are_defined_in_their_file(self):
        for name in ("core", "core_certificate"):
            self.assertEqual(getattr(module, name).__module__, "fivefault.cores")


if __name__ == "__main__":
    unittest.main()
