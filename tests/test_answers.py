"""[9] to [15] and fivefault/answers.py: the three answers and their certificates."""

import copy
import itertools
import random
import time
import unittest

from fivefault import answers as module
from fivefault.answers import Always, Answer, Never, Spreading, answer
from fivefault.boards import Board
from fivefault.cases import case_tree
from fivefault.completions import completion
from fivefault.derivations import derive
from fivefault.errors import InvalidCertificate, InvalidGoal, InvalidRules, TooManyPlaces, TooManyTerms
from fivefault.tables import table_of, under_pairs
from tests import orders, questions, samples, verdicts

CLASSES = {"always": Always, "spreading": Spreading, "never": Never}
RANKS = {"never": 0, "spreading": 1, "always": 2}
MEMBERS = ["kind", "premises", "goal", "certificate", "size", "is_right_for", "__str__", "__eq__", "__init__"]
WRONG = [None, True, False, 0, 1, "", "a", "goal", (), [], {}, [None], (None, None), [("a", "b")], ("goal",), ["goal"],
         [("a", "b", ("same",))], {"a": True}, [("a", True)], (("goal",), [])]


def made(kind, rules, goal, certificate):
    """The answer of a kind with a certificate, passed as the constructor takes it."""
    if kind == "spreading":
        return Spreading(rules, goal, *certificate)
    return CLASSES[kind](rules, goal, certificate)


def is_right(kind, rules, goal, certificate):
    """[10] to [13], for each kind."""
    if kind == "always":
        return questions.is_plain_derivation(rules, goal, certificate)
    if kind == "never":
        return verdicts.is_plain_case(rules, goal, certificate)
    tree, table = certificate
    return verdicts.is_plain_tree(rules, goal, tree) and questions.is_plain_table(rules, goal, table)


def still_right(found, rules, goal):
    """The sentence of is_right_for."""
    if found.kind == "never":
        return verdicts.is_plain_case_for(rules, goal, found.certificate)
    return is_right(found.kind, rules, goal, found.certificate)


class Answers(unittest.TestCase):
    def test_kinds_and_certificates(self):
        kinds = []
        for rules, goal in verdicts.all_questions():
            kept = list(rules)
            found = answer(rules, goal)
            kind = verdicts.plain_kind(rules, goal)
            kinds.append(kind)
            self.assertEqual(found.kind, kind)
            self.assertIs(type(found), CLASSES[kind])
            self.assertEqual([found.premises, found.goal], [kept, goal])
            self.assertIs(type(found.premises), list)
            self.assertEqual(rules, kept)
            self.assertTrue(is_right(kind, rules, goal, found.certificate))
            self.assertIs(found.is_right_for(rules, goal), True)
            left, right = goal
            self.assertEqual(str(found), kind + ": " + samples.plain_text(left) + " < " + samples.plain_text(right))
        self.assertTrue(min(kinds.count(kind) for kind in CLASSES) > 40)

    def test_what_the_certificates_are(self):
        for rules, goal in verdicts.all_questions():
            found = answer(rules, goal)
            if found.kind == "always":
                self.assertIs(type(found.certificate), list)
                self.assertEqual(found.size, len(found.certificate))
            elif found.kind == "spreading":
                self.assertIs(type(found.certificate), tuple)
                tree, table = found.certificate
                self.assertIs(type(table), list)
                self.assertEqual(table, table_of(rules, goal))
                self.assertEqual(found.size, len(table))
            else:
                self.assertIs(type(found.certificate), dict)
                self.assertEqual(found.certificate, verdicts.plain_cases(rules, goal)[0])
                self.assertEqual(found.size, len(verdicts.question_letters(rules, goal)))

    def test_the_other_kinds_have_no_certificate(self):
        for rules, goal in verdicts.all_questions():
            kind = verdicts.plain_kind(rules, goal)
            if kind != "always":
                self.assertIsNone(derive(rules, goal))
                steps = [(*pair, ("same",)) for pair in under_pairs(rules, goal)]
                self.assertRaises(InvalidCertificate, Always, rules, goal, steps)
                self.assertRaises(InvalidCertificate, Always, rules, goal, [*steps, (*goal, ("same",))])
            if kind != "spreading":
                tree, table = case_tree(rules, goal), table_of(rules, goal)
                self.assertTrue(tree is None or table is None)
                self.assertRaises(InvalidCertificate, Spreading, rules, goal, tree, table)
                self.assertRaises(InvalidCertificate, Spreading, rules, goal, tree or ("goal",), under_pairs(rules, goal))
            letters = verdicts.question_letters(rules, goal)
            if kind != "never" and len(letters) <= 6:
                for values in itertools.product([False, True], repeat=len(letters)):
                    self.assertRaises(InvalidCertificate, Never, rules, goal, dict(zip(letters, values)))

    def test_examples(self):
        found = answer([("one", "a", "b")], ("a", ("|", "b", "c")))
        self.assertEqual([found.kind, str(found), found.goal], ["always", "always: a < b | c", ("a", ("|", "b", "c"))])
        found = answer(*questions.PENTAGON)
        self.assertEqual([found.kind, str(found)], ["spreading", "spreading: a & (b | c) < (a & b) | (a & c)"])
        found = answer(rules=(), goal=("a", "b"))
        self.assertEqual([str(found), found.certificate, found.size, found.premises],
                         ["never: a < b", {"a": True, "b": False}, 2, []])

    def test_completions_of_spreading_questions(self):
        """[14], [15]: the completion keeps the rules, breaks the goal and does not spread."""
        asked = 0
        for rules, goal in verdicts.spreading_questions():
            try:
                board, reading, sets = completion(rules, goal)
            except TooManyPlaces:
                continue
            tables = orders.Tables(board.rows())
            self.assertTrue(all(tables.keeps(*rule[1:], reading) for rule in rules))
            self.assertFalse(tables.keeps(*goal, reading))
            self.assertFalse(tables.spreads())
            self.assertIs(board.spreads(), False)
            asked += 1
        self.assertTrue(asked > 30)

    def test_readings_on_boards(self):
        """[9]: what the answers say of boards."""
        source = random.Random(140)
        rows = orders.small_boards()
        tables = [(table, table.spreads()) for table in [orders.Tables(row) for row in rows]]
        kept = {"always": 0, "spreading": 0}
        for rules, goal in verdicts.all_questions()[::2]:
            kind = answer(rules, goal).kind
            letters = verdicts.question_letters(rules, goal)
            if kind == "never" or len(letters) > 4:
                continue
            for table, spreads in source.sample(tables, 6):
                if kind == "always" or spreads:
                    for _ in range(60):
                        reading = {letter: source.randrange(len(table.rows)) for letter in letters}
                        if all(table.keeps(*rule[1:], reading) for rule in rules):
                            self.assertTrue(table.keeps(*goal, reading))
                            kept[kind] += 1
        self.assertTrue(min(kept.values()) > 200)

    def test_a_case_is_a_reading(self):
        board = Board.chain(2)
        for rules, goal in verdicts.all_questions():
            found = answer(rules, goal)
            if found.kind == "never":
                reading = {letter: int(value) for letter, value in found.certificate.items()}
                self.assertTrue(all(board.keeps(*rule[1:], reading) for rule in rules))
                self.assertFalse(board.keeps(*goal, reading))

    def test_the_same_call_the_same_result(self):
        for rules, goal in verdicts.all_questions()[::4]:
            self.assertEqual(answer(rules, goal), answer(tuple(rules), goal))

    def test_the_largest_questions(self):
        asked = [questions.full_question()] + questions.random_questions(20, seed=141, many=24, rules=12)
        asked += questions.random_questions(5, seed=142, many=24, rules=12, letters="abcdefgh")
        for rules, goal in asked:
            before = time.perf_counter()
            found = answer(rules, goal)
            self.assertIs(found.is_right_for(rules, goal), True)
            self.assertLess(time.perf_counter() - before, 3)
            self.assertEqual(found.kind, verdicts.plain_kind(rules, goal))


class Changes(unittest.TestCase):
    """What changes no kind, and what loses no answer."""

    def test_more_rules_never_lose_an_answer(self):
        source = random.Random(143)
        for rules, goal in verdicts.all_questions():
            kind = answer(rules, goal).kind
            pool = questions.plain_vocabulary(rules, goal)
            if len(rules) < 12:
                more = [*rules, ("extra", source.choice(pool), source.choice(pool))]
                self.assertGreaterEqual(RANKS[answer(more, goal).kind], RANKS[kind])
            for at in range(len(rules)):
                fewer = answer(rules[:at] + rules[at + 1:], goal)
                self.assertLessEqual(RANKS[fewer.kind], RANKS[kind])

    def test_order_names_and_letters_change_no_kind(self):
        source = random.Random(144)
        for rules, goal in verdicts.all_questions():
            kind = answer(rules, goal).kind
            order = source.sample(rules, len(rules))
            self.assertEqual(answer(order, goal).kind, kind)
            named = [(name, *rule[1:]) for name, rule in zip(source.sample(questions.names(12), 12), rules)]
            self.assertEqual(answer(named, goal).kind, kind)
            letters = dict(zip(samples.LETTERS, source.sample(samples.LETTERS, 8)))
            renamed = answer(verdicts.renamed_rules(rules, letters), verdicts.with_letters(goal, letters))
            self.assertEqual(renamed.kind, kind)

    def test_turned_rules_with_exchanged_sides(self):
        for rules, goal in verdicts.all_questions():
            self.assertEqual(answer(*verdicts.turned_question(rules, goal)).kind, answer(rules, goal).kind)


class Constructors(unittest.TestCase):
    def verdict(self, kind, rules, goal, certificate):
        """Make an answer, which must work exactly if the certificate is right."""
        expected = is_right(kind, rules, goal, certificate)
        kept = copy.deepcopy((rules, goal, certificate))
        try:
            found = made(kind, rules, goal, certificate)
        except InvalidCertificate:
            self.assertFalse(expected, repr((kind, rules, goal, certificate))[:500])
        else:
            self.assertTrue(expected, repr((kind, rules, goal, certificate))[:500])
            self.assertEqual([found.kind, found.premises, found.goal], [kind, list(rules), goal])
        self.assertEqual((rules, goal, certificate), kept)
        return expected

    def test_right_ones_as_lists_and_tuples(self):
        for rules, goal in verdicts.all_questions():
            found = answer(rules, goal)
            certificate = found.certificate
            self.assertEqual(made(found.kind, rules, goal, certificate), found)
            if found.kind == "always":
                other = Always(tuple(rules), goal, tuple(certificate))
            elif found.kind == "spreading":
                other = Spreading(tuple(rules), goal, certificate[0], tuple(certificate[1]))
            else:
                other = Never(tuple(rules), goal, dict(reversed(certificate.items())))
            self.assertEqual(other, found)
            self.assertEqual([type(other.premises), type(other.certificate)],
                             [list, type(certificate)])
            if found.kind == "spreading":
                self.assertIs(type(other.certificate[1]), list)

    def test_other_right_ones(self):
        source = random.Random(145)
        for rules, goal in verdicts.all_questions()[::2]:
            found = answer(rules, goal)
            if found.kind == "always":
                steps = [("a", "a", ("same",)), *[self.moved(step) for step in found.certificate]]
                self.assertTrue(self.verdict("always", rules, goal, steps))
                self.assertEqual(Always(rules, goal, steps).size, found.size + 1)
            elif found.kind == "spreading":
                tree, table = found.certificate
                self.assertTrue(self.verdict("spreading", rules, goal, (tree, source.sample(table, len(table)))))
            else:
                for case in verdicts.plain_cases(rules, goal)[:20]:
                    self.assertTrue(self.verdict("never", rules, goal, case))
                    self.assertEqual(Never(rules, goal, case).certificate, case)

    def moved(self, step):
        left, right, reason = step
        if reason[0] == "chain":
            reason = ("chain", reason[1] + 1, reason[2] + 1)
        if reason[0] in ("into", "out"):
            reason = (reason[0], tuple(index + 1 for index in reason[1]))
        return (left, right, reason)

    def test_those_of_other_questions(self):
        rows = [(rules, goal, answer(rules, goal)) for rules, goal in verdicts.all_questions()]
        source = random.Random(146)
        accepted = 0
        for rules, goal, found in rows:
            for other in source.sample(rows, 8):
                accepted += self.verdict(other[2].kind, rules, goal, other[2].certificate)
            accepted += self.verdict(found.kind, rules, goal[::-1], found.certificate)
            accepted += self.verdict(found.kind, rules[::-1], goal, found.certificate)
            accepted += self.verdict(found.kind, rules[1:], goal, found.certificate)
        self.assertTrue(200 < accepted)

    def test_bent_ones(self):
        source = random.Random(147)
        accepted = 0
        for rules, goal in verdicts.all_questions():
            found = answer(rules, goal)
            for _ in range(12):
                if found.kind == "always":
                    accepted += self.verdict("always", rules, goal, questions.swapped(source, found.certificate))
                if found.kind == "spreading":
                    tree, table = found.certificate
                    accepted += self.verdict("spreading", rules, goal, (questions.swapped(source, tree), table))
                    accepted += self.verdict("spreading", rules, goal, (tree, questions.swapped(source, table)))
        self.assertTrue(accepted > 20)

    def test_bent_cases(self):
        for rules, goal in verdicts.all_questions():
            if verdicts.plain_kind(rules, goal) != "never":
                continue
            case = answer(rules, goal).certificate
            for letter in case:
                fewer = {other: value for other, value in case.items() if other != letter}
                self.assertFalse(self.verdict("never", rules, goal, fewer))
                self.verdict("never", rules, goal, {**case, letter: not case[letter]})
                for value in (int(case[letter]), None, "True", "", 0, 1, 2, [], (), [True]):
                    self.assertFalse(self.verdict("never", rules, goal, {**case, letter: value}))
            for letter in [*samples.LETTERS, "i", "", "ab"]:
                if letter not in case:
                    for value in (True, False, None, 0):
                        self.assertFalse(self.verdict("never", rules, goal, {**case, letter: value}))
            for other in (list(case.items()), tuple(case.items()), list(case), list(case.values()), [case]):
                self.assertRaises(InvalidCertificate, Never, rules, goal, other)

    def test_any_nested_values(self):
        rules, goal = [("one", "a", "b")], ("b", "a")
        tree, table = case_tree(*questions.PENTAGON), table_of(*questions.PENTAGON)
        for value in questions.nested_values(700, seed=148) + WRONG:
            self.verdict("always", rules, ("a", "b"), value)
            self.verdict("never", rules, goal, value)
            self.verdict("spreading", *questions.PENTAGON, (value, table))
            self.verdict("spreading", *questions.PENTAGON, (tree, value))
            self.verdict("spreading", *questions.PENTAGON, (value, value))

    def test_both_halves_count(self):
        rules, goal = [("one", "a", "b")], ("a", "b")
        tree = case_tree(rules, goal)
        self.assertRaises(InvalidCertificate, Spreading, rules, goal, tree, under_pairs(rules, goal))
        table = table_of(rules, ("b", "a"))
        self.assertRaises(InvalidCertificate, Spreading, rules, ("b", "a"), tree, table)
        self.assertRaises(InvalidCertificate, Spreading, rules, ("b", "a"), None, table)

    def test_errors_of_the_rules_first(self):
        for error, rules, goal in [(InvalidRules, [None], None), (InvalidGoal, [], None), (InvalidGoal, [], ("a",)),
                                   (InvalidGoal, questions.rules_with(25), None),
                                   (TooManyTerms, questions.rules_with(25), ("a", "b"))]:
            for kind in CLASSES:
                for certificate in (None, [], ("goal",)):
                    more = (certificate, certificate) if kind == "spreading" else certificate
                    self.assertRaises(error, made, kind, rules, goal, more)

    def test_by_keyword(self):
        steps = [("a", "a", ("same",))]
        self.assertEqual(Always(steps=steps, goal=("a", "a"), rules=[]).certificate, steps)
        tree, table = case_tree(*questions.PENTAGON), table_of(*questions.PENTAGON)
        found = Spreading(rules=[], goal=questions.PENTAGON[1], table=table, tree=tree)
        self.assertEqual(found.certificate, (tree, table))
        self.assertEqual(Never(case={"b": False, "a": True}, rules=[], goal=("a", "b")).size, 2)


class Kept(unittest.TestCase):
    """[2]: answers copy what they keep, and return new lists and dicts."""

    def test_arguments_that_are_changed_afterwards(self):
        for rules, goal in verdicts.all_questions()[::3]:
            found = answer(rules, goal)
            kind, premises, certificate = found.kind, list(rules), copy.deepcopy(found.certificate)
            handed = copy.deepcopy(certificate)
            asked = list(rules)
            other = made(kind, asked, goal, handed)
            asked.append(("zzz", "a", "b"))
            if kind == "spreading":
                handed[1].clear()
            else:
                handed.clear()
            self.assertEqual([other.premises, other.certificate], [premises, certificate])
            self.assertEqual(other, found)

    def test_results_that_are_changed(self):
        for rules, goal in verdicts.all_questions()[::3]:
            found = answer(rules, goal)
            premises, certificate = list(rules), copy.deepcopy(found.certificate)
            found.premises.append(None)
            found.premises.clear()
            if found.kind == "spreading":
                found.certificate[1].append(None)
            else:
                found.certificate.clear()
            self.assertEqual([found.premises, found.certificate], [premises, certificate])
            self.assertIs(found.is_right_for(rules, goal), True)

    def test_nothing_is_assigned(self):
        for found in (answer([], ("a", "a")), answer(*questions.PENTAGON), answer([], ("a", "b"))):
            for name in ("kind", "premises", "goal", "certificate", "size"):
                with self.assertRaises(AttributeError):
                    setattr(found, name, None)


class IsRightFor(unittest.TestCase):
    def test_other_rules(self):
        source = random.Random(149)
        verdict = {kind: [0, 0] for kind in CLASSES}
        for rules, goal in verdicts.all_questions():
            found = answer(rules, goal)
            for other in verdicts.changed_rules(source, rules, goal):
                expected = still_right(found, other, goal)
                self.assertIs(found.is_right_for(other, goal), expected)
                self.assertIs(found.is_right_for(tuple(other), goal), expected)
                verdict[found.kind][expected] += 1
                if expected:
                    self.assertEqual(answer(other, goal).kind, found.kind)
        self.assertTrue(min(min(row) for row in verdict.values()) > 20, verdict)

    def test_other_goals(self):
        source = random.Random(150)
        right = 0
        for rules, goal in verdicts.all_questions():
            found = answer(rules, goal)
            pool = questions.plain_vocabulary(rules, goal)
            for other in [goal[::-1], (goal[0], goal[0]), (source.choice(pool), goal[1]), (goal[0], source.choice(pool)),
                          (source.choice(pool), source.choice(pool)), ("a", "b"), ("h", ("&", "a", "h"))]:
                if verdicts.is_asked(rules, other):
                    expected = still_right(found, rules, other)
                    self.assertIs(found.is_right_for(rules, other), expected)
                    right += expected
        self.assertTrue(right > 50)

    def test_other_questions(self):
        rows = verdicts.all_questions()
        found = [answer(*row) for row in rows]
        source = random.Random(151)
        for rules, goal in rows:
            for one in source.sample(found, 6):
                self.assertIs(one.is_right_for(rules, goal), still_right(one, rules, goal))

    def test_a_case_with_further_letters(self):
        found = answer([("one", "c", "d")], ("a", "b"))
        self.assertEqual(found.certificate, {"a": True, "b": False, "c": False, "d": False})
        self.assertIs(found.is_right_for([], ("a", "b")), True)
        self.assertIs(found.is_right_for([], ("a", "c")), True)
        self.assertIs(found.is_right_for([("x", "c", "b")], ("a", "d")), True)
        self.assertIs(found.is_right_for([("x", "a", "c")], ("a", "b")), False)
        self.assertIs(found.is_right_for([], ("a", "e")), False)
        self.assertIs(found.is_right_for([], ("a", ("&", "b", "e"))), False)
        self.assertIs(found.is_right_for([("x", "e", "e")], ("a", "b")), False)
        self.assertIs(found.is_right_for([("x", "b", "e")], ("a", "b")), False)
        self.assertRaises(InvalidCertificate, Never, [], ("a", "b"), found.certificate)

    def test_errors(self):
        for found in (answer([], ("a", "a")), answer(*questions.PENTAGON), answer([], ("a", "b"))):
            for error, rules, goal in [(InvalidRules, [None], None), (InvalidRules, [("one", "a", "b")] * 2, 5),
                                       (InvalidGoal, [], None), (InvalidGoal, [], ["a", "b"]),
                                       (InvalidGoal, questions.rules_with(25), None),
                                       (TooManyTerms, questions.rules_with(25), ("a", "b"))]:
                self.assertRaises(error, found.is_right_for, rules, goal)
            self.assertIs(found.is_right_for(goal=found.goal, rules=[]), True)


class Equality(unittest.TestCase):
    def test_equal_and_different(self):
        rows = verdicts.all_questions()[::3]
        found = [answer(*row) for row in rows]
        for at, one in enumerate(found):
            for other_at, other in enumerate(found):
                expected = rows[at] == rows[other_at]
                self.assertIs(one == other, expected)
                self.assertIs(one != other, not expected)

    def test_what_counts(self):
        rules = [("one", "a", "b"), ("two", "b", "c")]
        steps = [("a", "b", ("rule", "one")), ("b", "c", ("rule", "two")), ("a", "c", ("chain", 0, 1))]
        other = [steps[1], steps[0], ("a", "c", ("chain", 1, 0))]
        one = Always(rules, ("a", "c"), steps)
        self.assertEqual(one, Always(tuple(rules), ("a", "c"), tuple(steps)))
        self.assertNotEqual(one, Always(rules, ("a", "c"), other))
        self.assertNotEqual(one, Always(rules[::-1], ("a", "c"), steps))
        self.assertNotEqual(one, Always(rules, ("a", "b"), steps[:1]))
        rules, goal = questions.PENTAGON
        tree, table = answer(rules, goal).certificate
        one = Spreading(rules, goal, tree, table)
        self.assertEqual(one, Spreading(rules, goal, tree, list(table)))
        self.assertNotEqual(one, Spreading(rules, goal, tree, table[::-1]))
        self.assertNotEqual(one, Spreading(rules, goal, ("h", tree, tree), table))
        one = Never([("x", "c", "c")], ("a", "b"), {"a": True, "b": False, "c": True})
        self.assertEqual(one, Never([("x", "c", "c")], ("a", "b"), {"c": True, "b": False, "a": True}))
        self.assertNotEqual(one, Never([("x", "c", "c")], ("a", "b"), {"a": True, "b": False, "c": False}))
        self.assertNotEqual(one, Never([("y", "c", "c")], ("a", "b"), {"a": True, "b": False, "c": True}))

    def test_nothing_else(self):
        class Like:
            def __init__(self, one):
                self.kind, self.premises, self.goal = one.kind, one.premises, one.goal
                self.certificate, self.size = one.certificate, one.size
                self.asked, self.aim = one.premises, one.goal

        for found in (answer([], ("a", "a")), answer(*questions.PENTAGON), answer([], ("a", "b"))):
            for value in [None, True, 0, 1, "", str(found), found.kind, found.certificate, found.premises, found.goal,
                          Like(found), type(found), (found,), [found]]:
                self.assertIs(found == value, False)
                self.assertIs(value == found, False)
                self.assertIs(found != value, True)


class Interface(unittest.TestCase):
    def test_classes(self):
        for kind, made_by in CLASSES.items():
            self.assertEqual(made_by.__bases__, (Answer,))
            self.assertEqual(made_by.__module__, module.__name__)
            for name in MEMBERS:
                self.assertIn(name, vars(made_by))
            for name in MEMBERS[:5]:
                self.assertIs(type(vars(made_by)[name]), property)
        for name in MEMBERS:
            self.assertIn(name, vars(Answer))
        self.assertEqual([Answer.__module__, answer.__module__], [module.__name__] * 2)
        for found in (answer([], ("a", "a")), answer(*questions.PENTAGON), answer([], ("a", "b"))):
            self.assertIsInstance(found, Answer)
            self.assertEqual([isinstance(found, made_by) for made_by in CLASSES.values()].count(True), 1)


if __name__ == "__main__":
    unittest.main()
