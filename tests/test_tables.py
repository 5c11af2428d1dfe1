"""[11], [15] and fivefault/tables.py: what is under what, and tables."""

import itertools
import random
import time
import unittest

from fivefault import tables as module
from fivefault.derivations import derive
from fivefault.tables import is_table, table_of, under_pairs
from tests import questions, samples


def texts(pair):
    return (samples.plain_text(pair[0]), samples.plain_text(pair[1]))


def with_tables():
    """Questions whose answer is not "always", with their tables."""
    found = [(rules, goal, table_of(rules, goal)) for rules, goal in questions.all_questions()]
    return [row for row in found if row[2] is not None]


class UnderPairs(unittest.TestCase):
    def check(self, rules, goal, found):
        terms = questions.plain_vocabulary(rules, goal)
        self.assertEqual(found, sorted(questions.plain_under(rules, terms), key=texts))

    def test_by_a_plain_closure(self):
        for rules, goal in questions.all_questions():
            self.check(rules, goal, under_pairs(rules, goal))
            self.check(rules, None, under_pairs(rules))

    def test_without_a_goal(self):
        self.assertEqual(under_pairs([]), [])
        self.assertEqual(under_pairs([], None), [])
        self.assertEqual(under_pairs([("one", "b", "a")]), [("a", "a"), ("b", "a"), ("b", "b")])

    def test_the_order(self):
        found = under_pairs([("one", ("&", "a", "b"), "a")], ("b", ("|", ("&", "a", "b"), "a")))
        rows = [texts(pair) for pair in found]
        self.assertEqual(rows, sorted(rows))
        self.assertEqual(rows[0], ("(a & b) | a", "(a & b) | a"))
        self.assertEqual(len(set(found)), len(found))

    def test_each_term_with_itself(self):
        for rules, goal in questions.all_questions():
            found = under_pairs(rules, goal)
            for term in questions.plain_vocabulary(rules, goal):
                self.assertIn((term, term), found)

    def test_the_goal_only_adds_its_terms(self):
        rules = [("one", "a", "b")]
        self.assertEqual(under_pairs(rules, ("b", "a")), [("a", "a"), ("a", "b"), ("b", "b")])
        self.assertIn(("a", "c"), under_pairs([("one", "a", "b"), ("two", "b", "c")], ("c", "a")))

    def test_only_terms_of_the_vocabulary_lead_from_one_to_another(self):
        self.assertNotIn(("a", "b"), under_pairs([("x", ("&", "a", "c"), "b")], ("a", "b")))

    def test_a_new_list_each_time(self):
        rules = [("one", "a", "b")]
        found = under_pairs(rules)
        found.clear()
        self.assertEqual(len(under_pairs(rules)), 3)


class TableOf(unittest.TestCase):
    def test_exactly_one_of_table_and_derivation(self):
        tables = 0
        for rules, goal in questions.all_questions():
            table = table_of(rules, goal)
            steps = derive(rules, goal)
            self.assertNotEqual(table is None, steps is None)
            below = goal in questions.plain_under(rules, questions.plain_vocabulary(rules, goal))
            self.assertIs(table is None, below)
            if table is not None:
                tables += 1
                self.assertEqual(table, under_pairs(rules, goal))
                self.assertIs(type(table), list)
                self.assertTrue(questions.is_plain_table(rules, goal, table))
                self.assertIs(is_table(rules, goal, table), True)
        self.assertTrue(40 < tables < 200)

    def test_equal_sides_and_no_rules(self):
        for term in samples.small_terms()[::7]:
            self.assertIsNone(table_of([], (term, term)))
        self.assertEqual(table_of([], ("a", "b")), [("a", "a"), ("b", "b")])

    def test_a_new_list_each_time(self):
        table_of([], ("a", "b")).append(1)
        self.assertEqual(table_of([], ("a", "b")), [("a", "a"), ("b", "b")])


class IsTable(unittest.TestCase):
    def same_verdict(self, rules, goal, table):
        expected = questions.is_plain_table(rules, goal, table)
        self.assertIs(is_table(rules, goal, table), expected, repr((rules, goal, table))[:600])
        return expected

    def test_in_any_order_and_as_a_tuple(self):
        source = random.Random(60)
        for rules, goal, table in with_tables():
            source.shuffle(table)
            self.assertIs(is_table(rules, goal, table), True)
            self.assertIs(is_table(tuple(rules), goal, tuple(table)), True)

    def test_a_pair_dropped(self):
        for rules, goal, table in with_tables()[::3]:
            for at in range(0, len(table), 1 + len(table) // 25):
                self.same_verdict(rules, goal, table[:at] + table[at + 1:])

    def test_a_pair_repeated(self):
        for rules, goal, table in with_tables()[::3]:
            for at in (0, len(table) // 2, len(table) - 1):
                self.assertIs(is_table(rules, goal, table + [table[at]]), False)
                self.assertIs(is_table(rules, goal, [table[at]] + table), False)

    def test_a_pair_put_in(self):
        source = random.Random(61)
        for rules, goal, table in with_tables()[::3]:
            terms = questions.plain_vocabulary(rules, goal)
            self.assertIs(is_table(rules, goal, table + [goal]), False)
            for _ in range(12):
                pair = (source.choice(terms), source.choice(terms))
                self.same_verdict(rules, goal, table + [pair])

    def test_pairs_exchanged_and_turned(self):
        source = random.Random(62)
        for rules, goal, table in with_tables()[::3]:
            for _ in range(8):
                at = source.randrange(len(table))
                self.same_verdict(rules, goal, table[:at] + [table[at][::-1]] + table[at + 1:])
            self.same_verdict(rules, goal, [pair[::-1] for pair in table])

    def test_tables_with_more_terms_and_more_pairs(self):
        accepted = 0
        source = random.Random(63)
        for rules, goal, table in with_tables():
            more = source.choice(["h", ("&", "a", "b"), ("|", "g", "a"), ("&", ("|", "a", "c"), "b")])
            wider = questions.random_question(source, many=4, rules=2)[0]
            terms = sorted({*questions.plain_vocabulary(rules, goal), *questions.plain_vocabulary([], (more, more)),
                            *questions.plain_vocabulary(wider)}, key=repr)
            if len(terms) <= 30:
                pairs = sorted(questions.plain_under([*rules, *wider], terms), key=repr)
                accepted += self.same_verdict(rules, goal, pairs)
        self.assertTrue(accepted > 10)

    def test_24_and_25_terms(self):
        letters = samples.LETTERS
        flat = [("&", "a", letter) for letter in letters] + [("|", "a", letter) for letter in letters]
        terms = letters + flat
        table = sorted(questions.plain_under([], terms), key=texts)
        self.assertIs(is_table([], ("a", "b"), table), True)
        for extra in (("&", "b", "c"), ("|", "b", "c")):
            wider = sorted(questions.plain_under([], [*terms, extra]), key=texts)
            self.assertIs(is_table([], ("a", "b"), wider), False)
        most = list(itertools.product(terms, repeat=2))
        self.assertIs(is_table([], ("a", "b"), most), False)
        self.assertIs(is_table([], ("a", "b"), [pair for pair in most if pair != ("a", "b")]), False)

    def test_all_pairs_but_the_goal_where_that_is_closed(self):
        # With b below everything, and everything but b below a.
        self.assertIs(is_table([], ("a", "b"), [("a", "a"), ("b", "a"), ("b", "b")]), True)
        self.assertIs(is_table([("x", "b", "a")], ("a", "b"), [("a", "a"), ("b", "a"), ("b", "b")]), True)
        self.assertIs(is_table([("x", "b", "a")], ("a", "b"), [("a", "a"), ("b", "b")]), False)

    def test_subterms_of_the_terms_of_the_table_count(self):
        table = [("a", "a"), ("b", "b")]
        whole = ("&", "c", "d")
        self.assertIs(is_table([], ("a", "b"), table + [(whole, whole)]), False)
        self.assertIs(is_table([], ("a", "b"), table + [(whole, whole), ("c", "c"), ("d", "d")]), False)
        full = table + [(whole, whole), ("c", "c"), ("d", "d"), (whole, "c"), (whole, "d")]
        self.assertIs(is_table([], ("a", "b"), full), True)

    def test_small_tables_one_by_one(self):
        """All sets of pairs of three terms."""
        whole = ("&", "a", "b")
        pairs = list(itertools.product(["a", "b", whole], repeat=2))
        accepted = 0
        for many in range(len(pairs) + 1):
            for table in itertools.combinations(pairs, many):
                for rules, goal in ([], ("a", "b")), ([], ("a", whole)), ([("x", "b", "a")], (whole, "b")):
                    accepted += self.same_verdict(rules, goal, list(table))
        self.assertTrue(accepted >= 5)

    def test_changed_values(self):
        source = random.Random(64)
        for rules, goal, table in with_tables():
            for _ in range(12):
                other = questions.swapped(source, table)
                if source.random() < 0.3:
                    other = questions.swapped(source, other)
                self.same_verdict(rules, goal, other)

    def test_nested_values(self):
        for value in questions.nested_values(1500, seed=65):
            self.assertIs(is_table([("one", "a", "b")], ("b", "a"), value), False)

    def test_pairs_of_other_forms(self):
        table = [("a", "a"), ("b", "b")]
        for wrong in [None, (), ("a",), ["a", "a"], ("a", "a", "a"), ("c", "i"), (samples.tower(6), "a"),
                      ("a", samples.row(25)), "aa", ("a", ["&", "a", "b"]), 1, True, [("a", "a")]]:
            self.assertIs(is_table([], ("a", "b"), table + [wrong]), False)
        self.assertIs(is_table([], ("a", "b"), [list(pair) for pair in table]), False)

    def test_for_other_rules_and_goals(self):
        rows = with_tables()
        for (rules, goal, table), (other, more, rest) in zip(rows, rows[1:] + rows[:1]):
            self.same_verdict(other, more, table)
            self.same_verdict(rules[:-1], goal, table)
            self.same_verdict(rules, goal[::-1], table)

    def test_long_lists_end_soon(self):
        before = time.perf_counter()
        terms = [("&", *parts) for parts in itertools.product("abcdefgh", repeat=4)]
        self.assertIs(is_table([], ("a", "b"), [(term, term) for term in terms]), False)
        self.assertIs(is_table([], ("a", "b"), [("a", "a")] * 10000), False)
        self.assertLess(time.perf_counter() - before, 3)


class Interface(unittest.TestCase):
    def test_all_are_defined_in_their_file(self):
        for name in ("under_pairs", "table_of", "is_table"):
            self.assertEqual(getattr(module, name).__module__, "fivefault.tables")

    def test_arguments_by_keyword(self):
        table = [("a", "a"), ("b", "b")]
        self.assertEqual(under_pairs(rules=[], goal=("a", "b")), table)
        self.assertEqual(table_of(rules=[], goal=("a", "b")), table)
        self.assertIs(is_table(rules=[], goal=("a", "b"), table=table), True)


if __name__ == "__main__":
    unittest.main()
