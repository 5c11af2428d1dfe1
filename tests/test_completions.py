"""[9], [15] and fivefault/completions.py: completions."""

import random
import time
import unittest

from fivefault import completions as module
from fivefault.boards import Board
from fivefault.cases import first_case
from fivefault.completions import completion
from fivefault.derivations import derive
from fivefault.errors import InvalidGoal, InvalidRules, TooManyPlaces, TooManyTerms
from tests import orders, questions, samples

# Rules of the form t < t with terms such as a | b | c, by the number of places of their completions.
UNIONS = {
    59: "abcde abcdf abce abcef abdef acdef bcde bcdf bef def",
    60: "abcde abcdf abcef abdf abef acde acdef adef bcdef",
    61: "abcde abcef abcf abdef abdf acd acdef acef adf bcdef bcdf bdef",
    62: "abcde abcdf abce abdef abef acdef acef bcdef bcdf bcef",
}


def union_rules(text):
    terms = [("|", *word) for word in text.split()]
    return [(name, term, term) for name, term in zip(questions.names(12), terms)]


def plain_sets(rules, goal):
    """[15]: the set of the terms under each term, and the sets of all places in their order, or too many of them."""
    terms = questions.plain_vocabulary(rules, goal)
    pairs = questions.plain_under(rules, terms)
    under = {t: frozenset(s for s in terms if (s, t) in pairs) for t in terms}
    places = {frozenset(terms)}
    waiting = list(under.values())
    while waiting and len(places) <= 200:
        more = waiting.pop()
        if more not in places:
            waiting += [more & one for one in places]
            places.add(more)
    rows = [sorted(samples.plain_text(term) for term in place) for place in places]
    return under, sorted(rows, key=lambda row: (len(row), row))


class Completion(unittest.TestCase):
    def check(self, rules, goal):
        """Compare with the document's words. Returns the board, or None if it would have too many places."""
        under, rows = plain_sets(rules, goal)
        if len(rows) > 60:
            with self.assertRaises(TooManyPlaces) as caught:
                completion(rules, goal)
            self.assertEqual(caught.exception.limit, 60)
            return None
        board, reading, sets = completion(rules, goal)
        self.assertEqual(sets, rows)
        self.assertEqual(board.rows(), orders.rows_of([set(row) for row in rows], lambda one, other: one <= other))
        texts = {letter: sorted(samples.plain_text(term) for term in under[letter])
                 for letter in under if isinstance(letter, str)}
        self.assertEqual(reading, {letter: rows.index(texts[letter]) for letter in texts})
        self.assertTrue(all(board.keeps(*rule[1:], reading) for rule in rules))
        return board

    def test_many_questions(self):
        broken = 0
        for rules, goal in questions.all_questions():
            board = self.check(rules, goal)
            if board is not None:
                found, reading, sets = completion(rules, goal)
                always = derive(rules, goal) is not None
                self.assertIs(board.keeps(*goal, reading), always)
                broken += not always
                if not always and first_case(rules, goal) is None:
                    self.assertIs(board.spreads(), False)
        self.assertTrue(broken > 40)

    def test_without_a_goal(self):
        for rules, goal in questions.all_questions()[::3]:
            self.check(rules, None)
            if rules and self.check(rules, None) is not None:
                self.assertEqual(completion(rules), completion(rules, None))

    def test_examples(self):
        self.assertEqual(completion([]), (Board.chain(1), {}, [[]]))
        self.assertEqual(completion([("one", "a", "b")]), (Board.chain(2), {"a": 0, "b": 1}, [["a"], ["a", "b"]]))
        board, reading, sets = completion([], ("a", "b"))
        self.assertEqual([board, reading, sets], [Board.fan(2), {"a": 1, "b": 2}, [[], ["a"], ["b"], ["a", "b"]]])
        self.assertEqual(completion([("x", "a", "b"), ("y", "b", "a")])[1:], ({"a": 0, "b": 0}, [["a", "b"]]))

    def test_a_spreading_question(self):
        rules, goal = questions.PENTAGON
        board, reading, sets = completion(rules, goal)
        self.assertIs(board.spreads(), False)
        self.assertIs(board.keeps(*goal, reading), False)
        self.assertIsNone(first_case(rules, goal))

    def test_the_order_of_the_places(self):
        board, reading, sets = completion([("x", ("&", "a", "b"), "c")], ("b", ("|", "a", "b")))
        self.assertEqual(sets, sorted(sets, key=lambda row: (len(row), row)))
        self.assertEqual(sets[0], ["a & b"])
        self.assertEqual(sets[-1], ["a", "a & b", "a | b", "b", "c"])
        self.assertEqual([board.bottom, board.top], [0, len(sets) - 1])

    def test_around_60_places(self):
        for many, text in UNIONS.items():
            rules = union_rules(text)
            self.assertEqual(len(plain_sets(rules, None)[1]), many)
            self.assertIs(self.check(rules, None) is None, many > 60)
            self.check(rules, ("a", ("|", "a", "b")))

    def test_far_too_many_places(self):
        letters = samples.LETTERS
        most = [("|", *[letter for letter in letters if letter != other]) for other in letters]
        more = [("|", *pair) for pair in ["abcd", "cdef", "efgh", "aceg", "bdfh", "abgh", "adeh", "bcfg"]]
        rules = [(name, *pair) for name, pair in zip(questions.names(12), zip(most, most))]
        before = time.perf_counter()
        for goal in (None, (more[0], more[1]), (("&", *more[2:4]), more[4])):
            with self.assertRaises(TooManyPlaces) as caught:
                completion(rules, goal)
            self.assertEqual(caught.exception.limit, 60)
        both = [(name, most[at], most[at]) for at, name in enumerate(questions.names(8))]
        both += [("p", more[0], more[0]), ("q", more[1], more[1]), ("r", more[2], more[2]), ("s", more[3], more[3])]
        self.assertRaises(TooManyPlaces, completion, both, (more[4], more[5]))
        self.assertLess(time.perf_counter() - before, 3)

    def test_large_vocabularies(self):
        before = time.perf_counter()
        asked = [questions.full_question(), (questions.rules_with(24), ("a", "b"))]
        for rules, goal in asked + questions.random_questions(10, seed=120, many=24, rules=12):
            self.check(rules, goal)
        self.assertLess(time.perf_counter() - before, 20)

    def test_errors_of_the_rules_first(self):
        wide = union_rules(UNIONS[62])
        for rules, goal, error in [([*wide, None], None, InvalidRules), (wide, ("a",), InvalidGoal),
                                   (wide, 5, InvalidGoal), (questions.rules_with(25), None, TooManyTerms),
                                   ([*wide, *wide], None, InvalidRules)]:
            self.assertRaises(error, completion, rules, goal)

    def test_everything_returned_is_new(self):
        rules, goal = [("one", "a", "b")], ("a", "c")
        board, reading, sets = completion(rules, goal)
        kept = [list(row) for row in sets]
        reading.clear()
        sets[1].append("x")
        sets.append(None)
        found = completion(rules, goal)
        self.assertEqual(found[2], kept)
        self.assertEqual(sorted(found[1]), ["a", "b", "c"])
        self.assertEqual([type(found), type(found[0]), type(found[1]), type(found[2])], [tuple, Board, dict, list])
        self.assertTrue(all(type(row) is list for row in found[2]))


class DerivedGoals(unittest.TestCase):
    """[9]: a derived goal is kept by every reading that keeps the rules, on each board."""

    def test_boards_of_the_tests_own(self):
        source = random.Random(121)
        boards = orders.small_boards()
        asked = 0
        for rules, goal in questions.all_questions():
            letters = [term for term in questions.plain_vocabulary(rules, goal) if isinstance(term, str)]
            if derive(rules, goal) is None or len(letters) > 4:
                continue
            for rows in source.sample(boards, 4):
                board, tables = Board(rows), orders.Tables(rows)
                for _ in range(150):
                    reading = {letter: source.randrange(len(rows)) for letter in letters}
                    if all(tables.keeps(*rule[1:], reading) for rule in rules):
                        self.assertIs(board.keeps(*goal, reading), True)
                        asked += 1
        self.assertTrue(asked > 2000)

    def test_a_goal_that_is_not_derived_is_broken_somewhere(self):
        for rules, goal in questions.all_questions():
            if derive(rules, goal) is None and len(plain_sets(rules, goal)[1]) <= 60:
                board, reading, sets = completion(rules, goal)
                tables = orders.Tables(board.rows())
                self.assertTrue(all(tables.keeps(*rule[1:], reading) for rule in rules))
                self.assertFalse(tables.keeps(*goal, reading))


class Interface(unittest.TestCase):
    def test_it_is_defined_in_its_file(self):
        self.assertEqual(module.completion.__module__, "fivefault.completions")

    def test_arguments_by_keyword(self):
        self.assertEqual(completion(goal=("a", "a"), rules=[])[1:], ({"a": 0}, [["a"]]))


if __name__ == "__main__":
    unittest.main()
