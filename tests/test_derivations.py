"""[9], [10] and fivefault/derivations.py: derivations."""

import copy
import random
import time
import unittest

from fivefault import derivations as module
from fivefault.derivations import chained, derive, is_derivation, trimmed, used_rules
from fivefault.errors import InvalidSteps
from fivefault.tables import table_of
from tests import questions, samples

AB = ("&", "a", "b")
A_OR_B = ("|", "a", "b")


def with_steps():
    """Questions whose answer is "always", with their derivations."""
    found = [(rules, goal, derive(rules, goal)) for rules, goal in questions.all_questions()]
    return [row for row in found if row[2] is not None]


def cited(reason):
    if reason[0] == "chain":
        return list(reason[1:])
    return list(reason[1]) if reason[0] in ("into", "out") else []


def shifted(step, by):
    left, right, reason = step
    if reason[0] == "chain":
        reason = ("chain", reason[1] + by, reason[2] + by)
    if reason[0] in ("into", "out"):
        reason = (reason[0], tuple(index + by for index in reason[1]))
    return (left, right, reason)


def padded(source, steps):
    """The steps with others before each one that nothing needs, and with the indexes changed to match."""
    found, moves = [], {}
    for at, step in enumerate(steps):
        for _ in range(source.randint(0, 2)):
            found.append(source.choice([("a", "a", ("same",)), (AB, "a", ("part",)), ("c", "d", ("rule", "extra"))]))
        if found and source.random() < 0.3:
            left, right, reason = found[-1]
            found.append((left, left, ("same",)))
            found.append((left, right, ("chain", len(found) - 1, len(found) - 2)))
        left, right, reason = step
        if reason[0] == "chain":
            reason = ("chain", *[moves[index] for index in reason[1:]])
        if reason[0] in ("into", "out"):
            reason = (reason[0], tuple(moves[index] for index in reason[1]))
        moves[at] = len(found)
        found.append((left, right, reason))
    return found


def plain_trimmed(steps):
    """The steps that the last one needs, found by following each index."""
    needed, waiting = set(), [len(steps) - 1]
    while waiting:
        at = waiting.pop()
        if at not in needed:
            needed.add(at)
            waiting += cited(steps[at][2])
    rows = sorted(needed)
    found = []
    for at in rows:
        left, right, reason = steps[at]
        if reason[0] == "chain":
            reason = ("chain", rows.index(reason[1]), rows.index(reason[2]))
        if reason[0] in ("into", "out"):
            reason = (reason[0], tuple(rows.index(index) for index in reason[1]))
        found.append((left, right, reason))
    return found


class Derive(unittest.TestCase):
    def test_derivations_of_many_questions(self):
        count = 0
        for rules, goal in questions.all_questions():
            steps = derive(rules, goal)
            self.assertNotEqual(steps is None, table_of(rules, goal) is None)
            if steps is None:
                continue
            count += 1
            self.assertIs(type(steps), list)
            self.assertTrue(questions.is_plain_derivation(rules, goal, steps))
            self.assertIs(is_derivation(rules, goal, steps), True)
            terms = questions.plain_vocabulary(rules, goal)
            self.assertTrue(all(side in terms for step in steps for side in step[:2]))
        self.assertTrue(60 < count < 230)

    def test_chains_of_rules(self):
        for length in range(1, 8):
            rules, goal = questions.chain_question(length)
            self.assertEqual(used_rules(derive(rules, goal)), sorted(rule[0] for rule in rules))
            self.assertIsNone(derive(rules, goal[::-1]))
            for at in range(length):
                self.assertIsNone(derive(rules[:at] + rules[at + 1:], goal))

    def test_equal_sides(self):
        for term in samples.small_terms()[::5] + [samples.tower(5), samples.row(24)]:
            steps = derive([], (term, term))
            self.assertEqual(steps[-1][:2], (term, term))
            self.assertTrue(questions.is_plain_derivation([], (term, term), steps))
            self.assertIsNotNone(derive([("one", "a", "b")], (term, term)))

    def test_no_rules(self):
        for goal in [("a", A_OR_B), (AB, "a"), (AB, A_OR_B), (AB, ("&", "b", "a")), (A_OR_B, ("|", "b", "a", "b")),
                     (("|", "a", AB), "a"), ("a", ("&", "a", A_OR_B)), (("&", "a", ("&", "b", "c")), ("&", AB, "c"))]:
            self.assertTrue(questions.is_plain_derivation([], goal, derive([], goal)))
        for goal in [("a", "b"), (A_OR_B, "a"), ("a", AB), (A_OR_B, AB), questions.PENTAGON[1], ("a", ("&", "a", "b"))]:
            self.assertIsNone(derive([], goal))

    def test_rules_that_need_both_operators(self):
        rules = [("x", ("|", "a", "b"), "c"), ("y", "c", ("&", "d", "e"))]
        steps = derive(rules, ("b", ("|", "e", "f")))
        self.assertEqual(used_rules(steps), ["x", "y"])
        rules = [("x", "a", "b"), ("y", "a", "c"), ("z", ("&", "b", "c"), "d")]
        self.assertEqual(used_rules(derive(rules, ("a", "d"))), ["x", "y", "z"])
        rules = [("x", "a", "d"), ("y", "b", "d"), ("z", "c", ("|", "a", "b"))]
        self.assertEqual(used_rules(derive(rules, ("c", "d"))), ["x", "y", "z"])

    def test_the_largest_vocabulary(self):
        rules, goal = questions.full_question()
        before = time.perf_counter()
        steps = derive(rules, goal)
        self.assertLess(time.perf_counter() - before, 3)
        self.assertTrue(questions.is_plain_derivation(rules, goal, steps))
        self.assertEqual(used_rules(steps), sorted(questions.names(12)))

    def test_a_new_list_each_time(self):
        rules = [("one", "a", "b")]
        derive(rules, ("a", "b")).clear()
        self.assertEqual(derive(rules, ("a", "b")), [("a", "b", ("rule", "one"))])


class IsDerivation(unittest.TestCase):
    def same_verdict(self, rules, goal, steps):
        expected = questions.is_plain_derivation(rules, goal, steps)
        self.assertIs(is_derivation(rules, goal, steps), expected, repr((rules, goal, steps))[:600])
        return expected

    def test_right_ones(self):
        source = random.Random(70)
        for rules, goal, steps in with_steps():
            self.assertIs(is_derivation(rules, goal, steps), True)
            self.assertIs(is_derivation(tuple(rules), goal, tuple(steps)), True)
            more = padded(source, steps)
            self.assertIs(is_derivation([("extra", "c", "d")], goal, more), not used_rules(steps))
            if len(questions.plain_vocabulary([*rules, ("extra", "c", "d")], goal)) <= 24 and len(rules) < 12:
                self.assertIs(is_derivation([*rules, ("extra", "c", "d")], goal, more), True)

    def test_a_step_dropped_repeated_or_exchanged(self):
        for rules, goal, steps in with_steps():
            for at in range(0, len(steps), 1 + len(steps) // 10):
                self.same_verdict(rules, goal, steps[:at] + steps[at + 1:])
                self.same_verdict(rules, goal, steps[:at] + [steps[at]] + steps[at:])
                self.same_verdict(rules, goal, steps + [steps[at]])
                self.same_verdict(rules, goal, steps[:at] + steps[at + 1:at + 2] + [steps[at]] + steps[at + 2:])
            self.same_verdict(rules, goal, steps[::-1])
            self.assertIs(is_derivation(rules, goal, []), False)
            self.assertIs(is_derivation(rules, goal, ()), False)

    def test_other_terms(self):
        source = random.Random(71)
        for rules, goal, steps in with_steps():
            terms = questions.plain_vocabulary(rules, goal) + [AB, "h", samples.tower(9), samples.tower(10)]
            for _ in range(10):
                at = source.randrange(len(steps))
                left, right, reason = steps[at]
                other = source.choice(terms)
                step = source.choice([(other, right, reason), (left, other, reason), (right, left, reason)])
                self.same_verdict(rules, goal, steps[:at] + [step] + steps[at + 1:])

    def test_other_reasons(self):
        source = random.Random(72)
        accepted = 0
        for rules, goal, steps in with_steps():
            at = len(steps) - 1
            left, right, reason = steps[at]
            reasons = [("same",), ("part",), ("rule", "one"), ("rule", "a"), ("chain", 0, 0), ("chain", 0, at - 1),
                       ("into", (0, 0)), ("out", (0, 0)), ("same", 0), ("part", 0), ("rule",), ("rule", "a", "b"),
                       ("chain", 0), ("chain", 0, 0, 0), ("into", ()), ("out", ()), ("into", 0, 0), ("into", [0, 0]),
                       (), None, "same", ["same"], ("Same",), (("same",),), ("rule", None), ("rule", ["a"]), (None,),
                       (["rule"], "a"), list(reason), ("rule", ("a",)), *[("rule", rule[0]) for rule in rules]]
            for other in reasons:
                accepted += self.same_verdict(rules, goal, steps[:at] + [(left, right, other)])
            for _ in range(4):
                at = source.randrange(len(steps))
                step = (*steps[at][:2], source.choice(reasons))
                accepted += self.same_verdict(rules, goal, steps[:at] + [step] + steps[at + 1:])
        self.assertTrue(accepted > 50)

    def test_each_index(self):
        for rules, goal, steps in with_steps():
            for at in range(0, len(steps), 1 + len(steps) // 8):
                left, right, reason = steps[at]
                indexes = cited(reason)
                values = [*range(-at - 1, len(steps) + 2), 10 ** 29, -10 ** 29, True, False, None, "0", (0,), [0]]
                for which in range(len(indexes)):
                    for value in values[::1 + len(values) // 25]:
                        other = indexes[:which] + [value] + indexes[which + 1:]
                        changed = ("chain", *other) if reason[0] == "chain" else (reason[0], tuple(other))
                        self.same_verdict(rules, goal, steps[:at] + [(left, right, changed)] + steps[at + 1:])

    def test_indexes_around_zero_and_the_own_index(self):
        steps = [("a", "a", ("same",)), ("a", "a", ("same",)), ("a", "a", ("chain", 0, 1))]
        for one in (-3, -2, -1, 0, 1, 2, 3, True, False, None):
            for other in (-3, -2, -1, 0, 1, 2, 3, True, False, None):
                expected = type(one) is int and type(other) is int and 0 <= one < 2 and 0 <= other < 2
                found = is_derivation([], ("a", "a"), steps[:2] + [("a", "a", ("chain", one, other))])
                self.assertIs(found, expected)
                whole = ("&", "a", "a")
                found = is_derivation([], ("a", whole), steps[:2] + [("a", whole, ("into", (one, other)))])
                self.assertIs(found, expected)
                whole = ("|", "a", "a")
                found = is_derivation([], (whole, "a"), steps[:2] + [(whole, "a", ("out", (one, other)))])
                self.assertIs(found, expected)

    def test_into_and_out_one_by_one(self):
        base = [("c", "a", ("rule", "x")), ("c", "b", ("rule", "y")), ("a", "c", ("rule", "v")),
                ("b", "c", ("rule", "w"))]
        rules = [("x", "c", "a"), ("y", "c", "b"), ("v", "a", "c"), ("w", "b", "c")]
        for indexes, into, out in [((0, 1), True, False), ((1, 0), False, False), ((2, 3), False, True),
                                   ((3, 2), False, False), ((0,), False, False), ((0, 1, 1), False, False),
                                   ((0, 2), False, False), ((2, 3, 3), False, False), ((), False, False)]:
            self.assertIs(is_derivation(rules, ("c", AB), base + [("c", AB, ("into", indexes))]), into)
            self.assertIs(is_derivation(rules, (A_OR_B, "c"), base + [(A_OR_B, "c", ("out", indexes))]), out)
            for goal in [("c", A_OR_B), ("c", "a"), (A_OR_B, "c"), ("a", "c")]:
                self.assertIs(is_derivation(rules, goal, base + [(*goal, ("into", indexes))]), False)
            for goal in [(AB, "c"), ("c", "a"), ("c", AB), ("a", "c")]:
                self.assertIs(is_derivation(rules, goal, base + [(*goal, ("out", indexes))]), False)

    def test_part_one_by_one(self):
        for left, right, expected in [(AB, "a", True), (AB, "b", True), (AB, "c", False), ("a", AB, False),
                                      ("a", A_OR_B, True), ("b", A_OR_B, True), ("c", A_OR_B, False),
                                      (A_OR_B, "a", False), ("a", "a", False), (AB, AB, False),
                                      (("&", AB, "c"), AB, True), (("&", AB, "c"), "a", False),
                                      (A_OR_B, ("|", "c", A_OR_B), True), (("&", A_OR_B, "c"), A_OR_B, True),
                                      (AB, ("|", AB, "c"), True), (("&", "c", "a", "b"), "b", True)]:
            self.assertIs(is_derivation([], (left, right), [(left, right, ("part",))]), expected)

    def test_rules_one_by_one(self):
        rules = [("one", "a", "b"), ("two", "b", "c")]
        for step, expected in [(("a", "b", ("rule", "one")), True), (("a", "b", ("rule", "two")), False),
                               (("b", "a", ("rule", "one")), False), (("a", "b", ("rule", "three")), False),
                               (("a", "b", ("rule", "")), False), (("a", "b", ("rule", None)), False),
                               (("b", "c", ("rule", "two")), True), (("a", "a", ("rule", "one")), False)]:
            self.assertIs(is_derivation(rules, step[:2], [step]), expected)

    def test_the_last_step_has_the_terms_of_the_goal(self):
        rows = with_steps()
        for (rules, goal, steps), (other, more, rest) in zip(rows, rows[1:] + rows[:1]):
            self.same_verdict(rules, goal, [*steps, ("a", "a", ("same",))])
            self.same_verdict(rules, goal[::-1], steps)
            self.same_verdict(other, more, steps)
            self.same_verdict(rules[:-1], goal, steps)

    def test_long_terms(self):
        for long in (samples.tower(9), samples.bushy(9, 600), samples.row(600), samples.row(600, "|")):
            for steps in ([(long, long, ("same",)), ("a", "a", ("same",))],
                          [(long, long[1], ("part",)) if long[0] == "&" else (long[1], long, ("part",)),
                           ("a", "a", ("same",))]):
                self.assertIs(is_derivation([], ("a", "a"), steps), True)
                self.assertEqual(used_rules(steps), [])
        for other in (samples.tower(10), samples.bushy(9, 601), samples.row(601), samples.row(601, "|")):
            steps = [(other, other, ("same",)), ("a", "a", ("same",))]
            self.assertIs(is_derivation([], ("a", "a"), steps), False)
            steps = [(other, other[1], ("part",)), (other[1], other, ("part",)), ("a", "a", ("same",))]
            self.assertIs(is_derivation([], ("a", "a"), steps), False)

    def test_results_of_into_and_out_that_are_no_long_terms(self):
        for deep, expected in ((8, True), (9, False)):
            part = samples.tower(deep)
            base = [(part, part, ("same",))]
            for word, pair in (("into", (part, ("&", part, part))), ("out", (("|", part, part), part))):
                steps = base + [(*pair, (word, (0, 0))), ("a", "a", ("same",))]
                self.assertIs(is_derivation([], ("a", "a"), steps), expected)
        for wide, expected in ((300, True), (301, False)):
            part = samples.row(wide)
            base = [(part, part, ("same",))]
            for word, pair in (("into", (part, ("&", part, part))), ("out", (("|", part, part), part))):
                steps = base + [(*pair, (word, (0, 0))), ("a", "a", ("same",))]
                self.assertIs(is_derivation([], ("a", "a"), steps), expected)

    def test_changed_values(self):
        source = random.Random(73)
        accepted = 0
        for rules, goal, steps in with_steps():
            for _ in range(40):
                other = questions.swapped(source, steps)
                if source.random() < 0.3:
                    other = questions.swapped(source, other)
                kept = copy.deepcopy(other)
                accepted += self.same_verdict(rules, goal, other)
                self.assertEqual(other, kept)
        self.assertTrue(accepted > 20)

    def test_nested_values(self):
        for value in questions.nested_values(2000, seed=74):
            self.same_verdict([("one", "a", "b")], ("a", "b"), value)
            self.same_verdict([], ("a", "a"), [("a", "a", ("same",)), value])
            self.same_verdict([], ("a", "a"), [("a", "a", ("same",)), ("a", "a", value)])
            self.same_verdict([], ("a", "a"), [("a", "a", ("same",)), ("a", value, ("same",))])
            self.same_verdict([], ("a", "a"), [(value, value, ("same",)), ("a", "a", ("same",))])
            self.same_verdict([], ("a", "a"), [("a", "a", ("same",)), ("a", "a", ("chain", 0, value))])
            self.same_verdict([], ("a", AB), [("a", "a", ("same",)), ("a", AB, ("into", value))])
            self.same_verdict([], ("a", "a"), [("a", value, ("part",)), ("a", "a", ("same",))])
            self.same_verdict([("one", "a", "a")], ("a", "a"), [("a", "a", ("rule", value))])


def invalid_steps():
    """Values that used_rules, trimmed and chained refuse."""
    good = ("a", "a", ("same",))
    found = [[], (), None, 0, True, "", "a", "same", good, [good, None], [None, good], [list(good)], [good[:2]],
             [(*good, 1)], [("a", "b", ("same",))], [("a", "b", ("part",))], [("a", "b", ("chain", 0, 0))],
             [good, ("a", "a", ("chain", 0, 1))], [good, ("a", "a", ("chain", -1, 0))],
             [good, ("a", "a", ("chain", False, 0))], [good, good, ("a", "a", ("chain", True, 0))],
             [good, ("a", "a", ("chain", 0))], [good, ("a", AB, ("into", [0, 0]))], [good, ("a", AB, ("into", (0,)))],
             [good, ("a", AB, ("into", (0, 0)))], [good, (A_OR_B, "a", ("out", (0, 0)))], [("a", "a", ("other",))],
             [("a", "a", ())], [("a", "a", None)], [("a", "a", ["same"])], [("i", "i", ("same",))],
             [(samples.tower(10), samples.tower(10), ("same",))], [(samples.row(601), samples.row(601), ("same",))]]
    for name in ["", "Rule", "abcdefg", "a1", "a b", "a\n", None, 1, True, ("a",), ["a"], "&"]:
        found.append([("a", "b", ("rule", name))])
    for value in (samples.tower(10), samples.row(601), "i", None, ["&", "a", "b"]):
        found += [[(value, "a", ("rule", "one"))], [("a", value, ("rule", "one"))]]
    return found


class Steps(unittest.TestCase):
    def all_steps(self):
        source = random.Random(75)
        found = [steps for rules, goal, steps in with_steps()]
        return found + [padded(source, steps) for steps in found]

    def test_used_rules(self):
        for steps in self.all_steps():
            expected = sorted({reason[1] for left, right, reason in steps if reason[0] == "rule"})
            self.assertEqual(used_rules(steps), expected)
            self.assertEqual(used_rules(tuple(steps)), expected)
            self.assertIs(type(used_rules(steps)), list)
        self.assertEqual(used_rules([("a", "b", ("rule", "z")), ("a", "b", ("rule", "y")), ("b", "a", ("rule", "z"))]),
                         ["y", "z"])

    def test_steps_that_are_not_needed_count_for_used_rules(self):
        steps = [("a", "b", ("rule", "one")), ("c", "c", ("same",))]
        self.assertEqual([used_rules(steps), used_rules(trimmed(steps))], [["one"], []])

    def test_any_name_and_any_long_terms_for_a_rule(self):
        for name in ("a", "abcdef", "zzzzzz", "one"):
            for left, right in (("a", "b"), (samples.tower(9), samples.row(600)), ("h", AB)):
                self.assertEqual(used_rules([(left, right, ("rule", name))]), [name])
                self.assertEqual(trimmed([(left, right, ("rule", name))]), [(left, right, ("rule", name))])

    def test_trimmed(self):
        source = random.Random(76)
        for rules, goal, steps in with_steps():
            self.assertEqual(trimmed(steps), plain_trimmed(steps))
            more = padded(source, steps)
            kept = copy.deepcopy(more)
            self.assertEqual(trimmed(more), plain_trimmed(steps))
            self.assertEqual(trimmed(tuple(more)), plain_trimmed(steps))
            self.assertEqual(more, kept)
            self.assertIs(is_derivation(rules, goal, trimmed(more)), True)
            self.assertEqual(trimmed(trimmed(more)), trimmed(more))

    def test_trimmed_of_what_is_needed_only_indirectly(self):
        steps = [("a", "b", ("rule", "x")), ("c", "c", ("same",)), ("b", "b", ("same",)), ("a", "b", ("chain", 0, 2)),
                 ("c", "c", ("chain", 1, 1)), ("a", "b", ("chain", 3, 2))]
        self.assertEqual(trimmed(steps), [("a", "b", ("rule", "x")), ("b", "b", ("same",)), ("a", "b", ("chain", 0, 1)),
                                          ("a", "b", ("chain", 2, 1))])

    def test_trimmed_is_a_new_list(self):
        steps = [("a", "a", ("same",))]
        trimmed(steps).append(1)
        self.assertEqual(steps, [("a", "a", ("same",))])

    def check_chained(self, one, other):
        kept = copy.deepcopy((one, other))
        found = chained(one, other)
        self.assertEqual((one, other), kept)
        self.assertIs(type(found), list)
        self.assertTrue(questions.are_plain_free_steps(found))
        self.assertEqual(found[-1][:2], (one[-1][0], other[-1][1]))
        given = [step for step in [*one, *other] if step[2][0] == "rule"]
        self.assertTrue(all(step in given for step in found if step[2][0] == "rule"))

    def test_chained(self):
        source = random.Random(77)
        rows = self.all_steps()
        met = 0
        for one in rows:
            for other in source.sample(rows, 40):
                if one[-1][1] == other[-1][0]:
                    self.check_chained(one, other)
                    self.check_chained(tuple(one), other)
                    met += 1
                else:
                    self.assertRaises(InvalidSteps, chained, one, other)
            same = [(one[-1][1], one[-1][1], ("same",))]
            self.check_chained(one, same)
            self.check_chained([(one[-1][0], one[-1][0], ("same",))], one)
        self.assertTrue(met > 20)

    def test_chained_derivations_are_derivations(self):
        rules, goal = questions.chain_question(7)
        for at in range(1, 7):
            middle = "abcdefgh"[at]
            found = chained(derive(rules, ("a", middle)), derive(rules, (middle, "h")))
            self.assertIs(is_derivation(rules, goal, found), True)

    def test_steps_that_are_refused(self):
        good = [("a", "a", ("same",))]
        for wrong in invalid_steps():
            self.assertFalse(questions.are_plain_free_steps(wrong))
            kept = copy.deepcopy(wrong)
            for call in (lambda: used_rules(wrong), lambda: trimmed(wrong), lambda: chained(wrong, good),
                         lambda: chained(good, wrong), lambda: chained(wrong, wrong)):
                with self.assertRaises(InvalidSteps, msg=repr(wrong)[:200]):
                    call()
            self.assertEqual(wrong, kept)

    def test_ends_that_do_not_meet(self):
        one, other = [("a", "b", ("rule", "x"))], [("c", "d", ("rule", "y"))]
        self.assertRaises(InvalidSteps, chained, one, other)
        self.assertRaises(InvalidSteps, chained, other, one)
        self.assertRaises(InvalidSteps, chained, one, one)
        # The last steps meet, or not, whatever stands before them.
        self.assertRaises(InvalidSteps, chained, one, [("b", "c", ("rule", "y")), ("a", "a", ("same",))])
        self.assertEqual(chained([("c", "c", ("same",)), *one], [("b", "e", ("rule", "z"))])[-1][:2], ("a", "e"))

    def test_changed_and_nested_values(self):
        source = random.Random(78)
        values = questions.nested_values(700, seed=79)
        for rules, goal, steps in with_steps():
            values += [questions.swapped(source, steps) for _ in range(10)]
        accepted = 0
        for value in values:
            if questions.are_plain_free_steps(value):
                accepted += 1
                self.assertEqual(trimmed(value), plain_trimmed(value))
                self.assertEqual(used_rules(value), sorted({step[2][1] for step in value if step[2][0] == "rule"}))
            else:
                self.assertRaises(InvalidSteps, trimmed, value)
                self.assertRaises(InvalidSteps, used_rules, value)
        self.assertTrue(accepted > 20)

    def test_thousands_of_steps(self):
        steps = [("a", "a", ("same",)), ("a", "b", ("rule", "one"))]
        for at in range(9998):
            steps.append(("a", "b", ("chain", 0, at + 1)) if at % 2 else ("a", "b", ("chain", 0, len(steps) - 1)))
        self.assertEqual(len(steps), 10000)
        before = time.perf_counter()
        self.assertIs(is_derivation([("one", "a", "b")], ("a", "b"), steps), True)
        self.assertEqual(used_rules(steps), ["one"])
        self.assertEqual(trimmed(steps), plain_trimmed(steps))
        found = chained(steps, [("b", "c", ("rule", "two"))])
        self.assertEqual([len(found), found[-1][:2], used_rules(found)], [10002, ("a", "c"), ["one", "two"]])
        both = chained(steps, [("b", "b", ("same",))] * 10000)
        self.assertEqual(trimmed(both)[-1][:2], ("a", "b"))
        self.assertLess(time.perf_counter() - before, 10)

    def test_thousands_of_steps_of_which_few_or_all_are_needed(self):
        idle = [("a", "a", ("same",))] * 9998
        steps = [("a", "b", ("rule", "x")), *idle, ("a", "b", ("chain", 5000, 0))]
        self.assertEqual(trimmed(steps), [("a", "b", ("rule", "x")), ("a", "a", ("same",)), ("a", "b", ("chain", 1, 0))])
        line = [("a", "a", ("same",))] + [("a", "a", ("chain", at, at)) for at in range(9999)]
        self.assertEqual(trimmed(line), line)
        self.assertEqual(trimmed(line[:5000] + [("a", "b", ("rule", "x"))]), [("a", "b", ("rule", "x"))])

    def test_thousands_of_steps_with_long_terms(self):
        long = samples.bushy(9, 600)
        steps = [(long, long, ("same",))] + [(long, long, ("chain", at, 0)) for at in range(9999)]
        before = time.perf_counter()
        self.assertEqual(trimmed(steps), steps)
        self.assertIs(is_derivation([], ("a", "a"), [*steps[:9000], ("a", "a", ("same",))]), True)
        self.assertLess(time.perf_counter() - before, 10)


class Interface(unittest.TestCase):
    def test_all_are_defined_in_their_file(self):
        for name in ("derive", "is_derivation", "used_rules", "trimmed", "chained"):
            self.assertEqual(getattr(module, name).__module__, "fivefault.derivations")

    def test_arguments_by_keyword(self):
        steps = [("a", "b", ("rule", "one"))]
        rules = [("one", "a", "b")]
        self.assertEqual(derive(rules=rules, goal=("a", "b")), steps)
        self.assertIs(is_derivation(rules=rules, goal=("a", "b"), steps=steps), True)
        self.assertEqual([used_rules(steps=steps), trimmed(steps=steps)], [["one"], steps])
        self.assertEqual(chained(one=steps, other=[("b", "b", ("same",))])[-1][:2], ("a", "b"))

    def test_example(self):
        rules = [("one", "a", "b")]
        steps = [("a", "b", ("rule", "one")), ("b", ("|", "b", "c"), ("part",)),
                 ("a", ("|", "b", "c"), ("chain", 0, 1))]
        self.assertEqual([is_derivation(rules, ("a", ("|", "b", "c")), steps), derive(rules, ("b", "a"))],
                         [True, None])


if __name__ == "__main__":
    unittest.main()
