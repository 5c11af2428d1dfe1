"""[20] to [22] and fivefault/store.py: stores."""

import copy
import random
import time
import unittest

from fivefault import store as module
from fivefault.answers import Answer, answer
from fivefault.errors import FaultError, InvalidCommand, InvalidLimit, Missing, NothingLeft, Stopped, TooManyTerms
from fivefault.errors import UnknownQuestion, UnknownRule
from fivefault.store import MAX_QUESTIONS, LoggedStore, Store
from tests import plain_store, questions, samples, verdicts
from tests.plain_store import PlainStore, Refused

SPREADING = verdicts.with_letters(questions.PENTAGON[1], {"a": "d", "b": "e", "c": "f"})
STORED = ["do", "do_all", "undo", "redo", "history", "rules", "rule", "questions", "answer", "kept", "made", "limit",
          "set_limit", "trial", "twin", "__eq__", "__len__", "__repr__", "__contains__", "__init__"]


def seen(store):
    """All that can be seen of a store without asking it for an answer."""
    found = [store.rules(), store.questions(), store.history(), store.kept(), store.made, store.limit, len(store),
             repr(store)]
    return found + ([store.done(), store.refused()] if isinstance(store, LoggedStore) else [])


def expected_view(model, logged):
    asked = [(name, *model.asked[name]) for name in sorted(model.asked)]
    text = "Store(" + str(len(model.rules)) + " rules, " + str(len(asked)) + " questions)"
    found = [model.rules, asked, (len(model.past), len(model.future)), sorted(model.held), model.made, model.limit,
             len(model.rules), text]
    return found + ([model.done, model.refused] if logged else [])


def filled(rules=(), asked=(), made_by=Store):
    """A store with these rules and questions, each one added by a step of its own."""
    store = made_by()
    for rule in rules:
        store.do(("add", *rule))
    for question in asked:
        store.do(("ask", *question))
    return store


class Compared(unittest.TestCase):
    """A store and a plain one that are told the same."""

    def begin(self, made_by=Store):
        self.store, self.model = made_by(), PlainStore()

    def look(self):
        self.assertEqual(seen(self.store), expected_view(self.model, isinstance(self.store, LoggedStore)))

    def tell(self, word, *arguments):
        """Call a method of both, and compare the errors. Returns the code of the error, or None."""
        kept = copy.deepcopy(arguments)
        before = seen(self.store)
        try:
            getattr(self.model, word)(*arguments)
        except Refused as error:
            expected = error.fields
        else:
            expected = None
        try:
            self.assertIsNone(getattr(self.store, word)(*arguments))
        except (FaultError, Missing, NothingLeft) as error:
            self.assertEqual(vars(error), expected, arguments)
            self.assertEqual(type(error).__name__, error.code)
            self.assertEqual(seen(self.store)[:8], before[:8])
        else:
            self.assertIsNone(expected, arguments)
        self.assertEqual(arguments, kept)
        self.look()
        return expected and expected["code"]

    def ask(self, name):
        """Ask the store for an answer, and check it as [9] and [22] say it."""
        held = self.model.held.get(name)
        found = self.store.answer(name)
        self.assertIsInstance(found, Answer)
        goal = self.model.asked[name]
        self.assertEqual(found.goal, goal)
        self.assertTrue(plain_store.still_right(found, self.model.rules, goal))
        if held is None:
            self.assertEqual(found, answer(self.model.rules, goal))
            self.assertEqual(found.premises, self.model.rules)
        else:
            self.assertEqual(found, held)
        self.model.answered(name, found)
        self.look()
        return found


class Sequences(Compared):
    def run_one(self, source, made_by):
        self.begin(made_by)
        codes = []
        for _ in range(source.randint(10, 45)):
            way = source.random()
            if way < 0.5:
                codes.append(self.tell("do", plain_store.random_command(source, self.model)))
            elif way < 0.6:
                commands = plain_store.random_commands(source, self.model)
                codes.append(self.tell("do_all", source.choice([list, tuple])(commands)))
            elif way < 0.7:
                codes.append(self.tell(source.choice(["undo", "undo", "redo"])))
            elif way < 0.74:
                codes.append(self.tell("set_limit", source.choice([-1, 0, 1, 2, 3, 5, 8, 12, 13, 10 ** 29])))
            elif way < 0.78:
                self.try_out(plain_store.random_commands(source, self.model))
            elif self.model.asked:
                self.ask(source.choice(sorted(self.model.asked)))
            if source.random() < 0.05:
                self.store, self.model = self.store.twin(), self.model.twin()
                self.assertIs(type(self.store), made_by)
                self.look()
        return codes

    def try_out(self, commands):
        """A trial changes nothing, and tells the kinds as they would be."""
        before = seen(self.store)
        other = self.model.twin()
        kept = copy.deepcopy(commands)
        try:
            other.do_all(commands)
        except Refused as error:
            with self.assertRaises(Stopped) as caught:
                self.store.trial(commands)
            self.assertEqual(vars(caught.exception), error.fields)
        else:
            expected = [(name, verdicts.plain_kind(other.rules, other.asked[name])) for name in sorted(other.asked)]
            self.assertEqual(self.store.trial(commands), expected)
        self.assertEqual(commands, kept)
        self.assertEqual(seen(self.store), before)

    def test_stores(self):
        codes = []
        for seed in range(300):
            codes += self.run_one(random.Random(200 + seed), Store)
        for code in ("InvalidCommand", "InvalidName", "NameInUse", "InvalidTerm", "CapacityReached", "TooManyTerms",
                     "UnknownRule", "UnknownQuestion", "Stopped", "NothingLeft", "InvalidLimit", None):
            self.assertTrue(codes.count(code) > 3, (code, codes.count(code)))

    def test_logged_stores(self):
        codes = []
        for seed in range(120):
            codes += self.run_one(random.Random(400 + seed), LoggedStore)
        self.assertTrue(codes.count("Stopped") > 3)


class Errors(Compared):
    """[20]: the errors of each command in their order."""

    def setUp(self):
        self.begin()
        self.tell("do", ("add", "one", "a", "b"))
        self.tell("do", ("ask", "one", "a", "c"))
        self.tell("do", ("add", "two", "b", "c"))
        self.ask("one")

    def test_wrong_commands_come_first(self):
        for command in plain_store.WRONG_COMMANDS:
            self.assertEqual(self.tell("do", command), "InvalidCommand")
        with self.assertRaises(InvalidCommand) as caught:
            self.store.do(())
        self.assertIsNone(caught.exception.word)
        with self.assertRaises(InvalidCommand) as caught:
            self.store.do(("add", "not a name", None))
        self.assertEqual(caught.exception.word, "add")

    def test_add_and_ask(self):
        for word in ("add", "ask"):
            for name in plain_store.WRONG_NAMES:
                if name != "rule":
                    self.assertEqual(self.tell("do", (word, name, None, "i")), "InvalidName")
            for term in plain_store.WRONG_TERMS:
                self.assertEqual(self.tell("do", (word, "one", term, term)), "NameInUse")
                self.assertEqual(self.tell("do", (word, "new", term, "a")), "InvalidTerm")
                self.assertEqual(self.tell("do", (word, "new", "a", term)), "InvalidTerm")
        self.assertEqual(self.tell("do", ("ask", "two", "a", "b")), None)
        self.assertEqual(self.tell("do", ("add", "three", "a", "b")), None)

    def test_put_drop_and_forget(self):
        for name in [*plain_store.WRONG_NAMES, "three", "on", "onee"]:
            self.assertEqual(self.tell("do", ("put", name, None, "a")), "UnknownRule")
            self.assertEqual(self.tell("do", ("drop", name)), "UnknownRule")
            self.assertEqual(self.tell("do", ("forget", name)), "UnknownQuestion")
        for term in plain_store.WRONG_TERMS:
            self.assertEqual(self.tell("do", ("put", "one", term, "a")), "InvalidTerm")
            self.assertEqual(self.tell("do", ("put", "one", "a", term)), "InvalidTerm")
        self.assertEqual(self.tell("do", ("forget", "two")), "UnknownQuestion")

    def test_capacity_of_rules(self):
        rest = [name for name in questions.names(12) if name not in ("one", "two")]
        for name in rest[:10]:
            self.assertIsNone(self.tell("do", ("add", name, "a", "b")))
        self.assertEqual(self.tell("do", ("add", "last", "a", "b")), "CapacityReached")
        self.assertEqual(self.tell("do", ("add", "last", "a", samples.bushy(5, 24))), "CapacityReached")
        self.assertEqual(self.tell("do", ("add", "last", "a", None)), "InvalidTerm")
        self.assertEqual(self.tell("do", ("add", "one", "a", None)), "NameInUse")
        self.assertIsNone(self.tell("do", ("put", "one", "c", "b")))
        self.assertIsNone(self.tell("do", ("drop", "two")))
        self.assertIsNone(self.tell("do", ("add", "last", "a", "b")))
        self.assertEqual(self.tell("do", ("add", "two", "a", "b")), "CapacityReached")
        self.assertIsNone(self.tell("undo"))
        self.assertIsNone(self.tell("do", ("add", "two", "a", "b")))

    def test_capacity_of_questions(self):
        for name in questions.names(7):
            self.assertIsNone(self.tell("do", ("ask", name, "a", "b")))
        self.assertEqual(len(self.store.questions()), MAX_QUESTIONS)
        self.assertEqual(self.tell("do", ("ask", "last", "a", "b")), "CapacityReached")
        self.assertEqual(self.tell("do", ("ask", "last", "a", samples.bushy(5, 24))), "CapacityReached")
        self.assertEqual(self.tell("do", ("ask", "last", "a", None)), "InvalidTerm")
        self.assertIsNone(self.tell("set_limit", 2))
        self.assertEqual(self.tell("do", ("add", "last", "a", "b")), "CapacityReached")
        self.assertEqual(self.tell("do", ("ask", "last", "a", "b")), "CapacityReached")
        self.assertIsNone(self.tell("do", ("forget", "one")))
        self.assertIsNone(self.tell("do", ("ask", "last", "a", "b")))

    def test_24_and_25_terms_of_rules(self):
        for count, expected in ((24, None), (25, "TooManyTerms"), (26, "TooManyTerms")):
            self.begin()
            rules = questions.rules_with(count)
            for rule in rules[:-1]:
                self.assertIsNone(self.tell("do", ("add", *rule)))
            self.assertEqual(self.tell("do", ("add", *rules[-1])), expected)
            if expected:
                self.tell("do", ("drop", rules[0][0]))
                self.assertIsNone(self.tell("do", ("add", *rules[-1])))
                self.assertEqual(self.tell("do", ("add", *rules[0])), expected)
                self.assertEqual(self.tell("do", ("put", rules[1][0], ("|", *"abcd"), ("|", *"bcde"))), None)

    def test_24_and_25_terms_with_questions(self):
        self.begin()
        for rule in questions.rules_with(21):
            self.assertIsNone(self.tell("do", ("add", *rule)))
        self.assertIsNone(self.tell("do", ("ask", "c", ("&", "a", "c"), ("&", "a", "d"))))
        self.assertIsNone(self.tell("do", ("ask", "b", ("&", ("&", "a", "e"), ("&", "a", "f")), "a")))
        self.assertEqual(self.tell("do", ("ask", "d", ("&", ("&", "a", "e"), ("&", "a", "f")), ("&", "h", "g"))),
                         "TooManyTerms")
        # The question b has 24 terms and c has 23, so one term more is too much for b, two are so for c too.
        self.assertEqual(self.count_of(("add", "more", ("&", "h", "a"), "a")), 25)
        self.assertEqual(self.count_of(("add", "more", ("&", "h", "a"), ("&", "h", "b"))), 26)
        self.assertEqual(self.count_of(("add", "more", ("&", ("&", "h", "a"), ("&", "h", "b")), "a")), 27)
        # The question a has 22 terms, so three more are too much for it before they are so for b, four for the rules.
        self.assertIsNone(self.tell("do", ("ask", "a", ("&", "a", "g"), "a")))
        self.assertEqual(self.count_of(("add", "more", ("&", "h", "a"), ("&", "h", "b"))), 26)
        self.assertEqual(self.count_of(("add", "more", ("&", ("&", "h", "a"), ("&", "h", "b")), "a")), 25)
        self.assertEqual(self.count_of(("add", "more", ("&", ("&", "h", "a"), ("&", "h", "b")), ("&", "h", "c"))), 25)
        more = ("&", ("&", ("&", "h", "a"), ("&", "h", "b")), ("&", "h", "c"))
        self.assertEqual(self.count_of(("add", "more", more, "a")), 26)
        self.assertIsNone(self.tell("do", ("forget", "a")))
        self.assertIsNone(self.tell("do", ("forget", "b")))
        self.assertIsNone(self.tell("do", ("add", "more", ("&", "h", "a"), "a")))
        self.assertEqual(self.count_of(("put", "more", ("&", "h", "a"), ("&", "h", "b"))), 25)

    def count_of(self, command):
        before = seen(self.store)
        with self.assertRaises(TooManyTerms) as caught:
            self.store.do(command)
        self.assertEqual(seen(self.store), before)
        self.assertEqual(self.tell("do", command), "TooManyTerms")
        return caught.exception.count

    def test_unknown_names(self):
        for name in [*plain_store.WRONG_NAMES, "three"]:
            with self.assertRaises(UnknownRule) as caught:
                self.store.rule(name)
            self.assertEqual(caught.exception.name, name)
            with self.assertRaises(UnknownQuestion) as caught:
                self.store.answer(name)
            self.assertEqual(caught.exception.name, name)
        self.assertRaises(UnknownQuestion, self.store.answer, "two")
        self.look()


class Steps(Compared):
    """[21]: several commands as one step, undo and redo."""

    def test_all_or_none(self):
        self.begin()
        good = [("add", "one", "a", "b"), ("ask", "q", "a", "b"), ("put", "one", "a", "c"), ("drop", "one")]
        self.assertIsNone(self.tell("do_all", good))
        self.assertEqual(self.store.history(), (1, 0))
        for at in range(5):
            for wrong in [(), ("drop", "none"), ("add", "A", "a", "b"), ("ask", "q", "a", "b"), ("forget", "x")]:
                commands = [("add", "x" + "abcde"[k], "a", "b") for k in range(5)]
                commands[at] = wrong
                self.assertEqual(self.tell("do_all", commands), "Stopped")
                self.assertEqual(self.tell("do_all", tuple(commands)), "Stopped")
                with self.assertRaises(Stopped) as caught:
                    self.store.do_all(commands)
                self.assertEqual(caught.exception.index, at)

    def test_no_command_is_a_step(self):
        self.begin()
        self.tell("do_all", [])
        self.tell("do_all", ())
        self.assertEqual(self.store.history(), (2, 0))
        self.tell("undo")
        self.tell("do_all", [])
        self.assertEqual(self.store.history(), (2, 0))
        self.assertEqual(self.tell("redo"), "NothingLeft")

    def test_each_command_knows_those_before_it(self):
        self.begin()
        self.assertEqual(self.tell("do_all", [("drop", "one"), ("add", "one", "a", "b")]), "Stopped")
        self.assertIsNone(self.tell("do_all", [("add", "one", "a", "b"), ("drop", "one"), ("add", "one", "b", "a")]))
        self.assertEqual(self.tell("do_all", [("add", "one", "a", "b"), ("drop", "one")]), "Stopped")
        # A vocabulary that is too large in between is refused, although the end would be allowed.
        rules = questions.rules_with(25)
        commands = [("add", *rule) for rule in rules] + [("drop", rules[0][0])]
        self.assertEqual(self.tell("do_all", commands), "Stopped")

    def test_undo_and_redo_over_many_steps(self):
        self.begin()
        self.assertEqual([self.tell("undo"), self.tell("redo")], ["NothingLeft", "NothingLeft"])
        states = []
        for at, name in enumerate(questions.names(12)):
            states.append((self.store.rules(), self.store.questions()))
            self.tell("do", ("add", name, "abcdefgh"[at % 8], "a"))
            self.tell("do", ("add", name, "a", "b"))
            if at < 8:
                states.append((self.store.rules(), self.store.questions()))
                self.tell("do", ("ask", name, "a", "abcdefgh"[at]))
        self.assertEqual(self.store.history(), (20, 0))
        ends = [(self.store.rules(), self.store.questions())]
        for state in states[::-1]:
            self.assertIsNone(self.tell("undo"))
            self.assertEqual((self.store.rules(), self.store.questions()), state)
        self.assertEqual(self.tell("undo"), "NothingLeft")
        self.assertEqual(self.store.history(), (0, 20))
        for state in states[1:] + ends:
            self.assertIsNone(self.tell("redo"))
            self.assertEqual((self.store.rules(), self.store.questions()), state)
        self.assertEqual(self.tell("redo"), "NothingLeft")

    def test_redo_is_gone_after_another_step_and_not_after_a_refused_one(self):
        self.begin()
        self.tell("do", ("add", "one", "a", "b"))
        self.tell("do", ("add", "two", "a", "b"))
        self.tell("undo")
        self.assertEqual(self.tell("do", ("add", "one", "a", "b")), "NameInUse")
        self.assertEqual(self.tell("do_all", [("drop", "none")]), "Stopped")
        self.store.trial([("drop", "one")])
        self.store.limit = 5
        self.model.limit = 5
        self.assertEqual(self.store.history(), (1, 1))
        self.assertIsNone(self.tell("redo"))
        self.tell("undo")
        self.tell("do", ("drop", "one"))
        self.assertEqual(self.tell("redo"), "NothingLeft")


class KeptAnswers(Compared):
    """[22]."""

    def test_examples(self):
        self.begin()
        self.tell("do_all", [("add", "one", "a", "b"), ("add", "two", "c", "d"), ("ask", "q", "a", "b"),
                             ("ask", "r", "b", "a")])
        first = self.ask("q")
        self.ask("r")
        self.ask("q")
        self.assertEqual([self.store.kept(), self.store.made], [["q", "r"], 2])
        # Neither certificate needs the rule two; the case has the letters c and d, too.
        self.tell("do", ("drop", "two"))
        self.assertEqual(self.store.kept(), ["q", "r"])
        self.assertEqual(self.store.answer("q").premises, [("one", "a", "b"), ("two", "c", "d")])
        self.assertEqual(self.store.answer("q"), first)
        self.tell("do", ("drop", "one"))
        self.assertEqual(self.store.kept(), ["r"])
        self.tell("undo")
        self.assertEqual([self.store.kept(), self.store.made], [["r"], 2])
        second = self.ask("q")
        self.assertEqual(second.premises, [("one", "a", "b")])
        self.assertEqual(self.store.made, 3)
        self.tell("undo")
        self.assertEqual(self.store.kept(), ["q", "r"])

    def test_a_new_letter_in_the_rules_drops_a_case(self):
        self.begin()
        self.tell("do", ("ask", "q", "a", "b"))
        self.ask("q")
        self.tell("do", ("add", "one", "c", "c"))
        self.assertEqual(self.store.kept(), [])
        self.ask("q")
        self.tell("undo")
        self.assertEqual(self.store.kept(), ["q"])

    def test_a_goal_that_is_changed(self):
        self.begin()
        self.tell("do", ("ask", "q", "a", "a"))
        self.ask("q")
        self.tell("do", ("forget", "q"))
        self.assertEqual(self.store.kept(), [])
        self.tell("undo")
        self.assertEqual(self.store.kept(), [])
        self.ask("q")
        self.tell("do_all", [("forget", "q"), ("ask", "q", "b", "b")])
        self.assertEqual(self.store.kept(), [])

    def test_several_commands_are_judged_once(self):
        self.begin()
        self.tell("do_all", [("add", "one", "a", "b"), ("ask", "q", "a", "b"), ("ask", "r", "b", "a")])
        self.ask("q")
        self.ask("r")
        self.tell("do_all", [("forget", "q"), ("ask", "q", "a", "b"), ("drop", "one"), ("add", "one", "a", "b")])
        self.assertEqual(self.store.kept(), ["q", "r"])
        self.tell("do_all", [("put", "one", "b", "a"), ("put", "one", "a", "b")])
        self.assertEqual(self.store.kept(), ["q", "r"])
        self.tell("do", ("put", "one", "b", "a"))
        self.tell("do", ("put", "one", "a", "b"))
        self.assertEqual(self.store.kept(), [])

    def test_spreading_answers(self):
        for rules, goal in verdicts.spreading_questions()[::4]:
            self.begin()
            for rule in rules:
                self.tell("do", ("add", *rule))
            self.tell("do", ("ask", "q", *goal))
            self.assertEqual(self.ask("q").kind, "spreading")
            for command in [("add", "more", goal[1], goal[0]), ("add", "next", *goal), ("drop", "next")]:
                self.tell("do", command)
                self.ask("q")
            for rule in rules:
                self.tell("do", ("drop", rule[0]))
                self.tell("undo")
            self.ask("q")

    def test_a_held_answer_never_changes(self):
        store = filled([("one", "a", "b")], [("q", "a", "b"), ("r", "b", "a")])
        held = [store.answer("q"), store.answer("r")]
        views = [(one.kind, one.premises, one.goal, one.certificate, one.size, str(one)) for one in held]
        for command in [("add", "two", "b", "a"), ("drop", "one"), ("forget", "q"), ("put", "two", "c", "d")]:
            store.do(command)
            for name in [question[0] for question in store.questions()]:
                store.answer(name)
        store.undo()
        self.assertEqual([(one.kind, one.premises, one.goal, one.certificate, one.size, str(one)) for one in held], views)


class Limits(Compared):
    def test_range(self):
        self.begin()
        self.assertEqual(self.store.limit, 12)
        for limit in (0, -1, 13, 14, 100, 10 ** 29, -10 ** 29):
            self.assertEqual(self.tell("set_limit", limit), "InvalidLimit")
            with self.assertRaises(InvalidLimit) as caught:
                self.store.limit = limit
            self.assertEqual([caught.exception.limit, self.store.limit], [limit, 12])
        for limit in range(1, 13):
            self.store.limit = limit
            self.model.limit = limit
            self.look()
            self.assertIsNone(self.tell("set_limit", 13 - limit))

    def test_not_less_than_the_number_of_rules(self):
        self.begin()
        for name in ("a", "b", "c"):
            self.tell("do", ("add", name, "a", "b"))
        for limit in (1, 2):
            self.assertEqual(self.tell("set_limit", limit), "InvalidLimit")
            with self.assertRaises(InvalidLimit):
                self.store.limit = limit
        self.assertIsNone(self.tell("set_limit", 3))
        self.assertEqual(self.tell("do", ("add", "d", "a", "b")), "CapacityReached")
        self.assertEqual(self.tell("do_all", [("drop", "a"), ("add", "d", "a", "b"), ("add", "e", "a", "b")]), "Stopped")
        with self.assertRaises(Stopped) as caught:
            self.store.trial([("drop", "a"), ("add", "d", "a", "b"), ("add", "e", "a", "b")])
        self.assertEqual([caught.exception.index, caught.exception.cause], [2, "CapacityReached"])
        self.assertIsNone(self.tell("do_all", [("drop", "a"), ("add", "d", "a", "b")]))

    def test_no_step_and_not_checked_by_undo_and_redo(self):
        self.begin()
        for name in ("a", "b", "c"):
            self.tell("do", ("add", name, "a", "b"))
        for _ in range(2):
            self.tell("undo")
        self.assertIsNone(self.tell("set_limit", 1))
        self.assertEqual(self.store.history(), (1, 2))
        self.assertIsNone(self.tell("redo"))
        self.assertIsNone(self.tell("redo"))
        self.assertEqual([len(self.store), self.store.limit], [3, 1])
        self.assertEqual(self.tell("do", ("add", "d", "a", "b")), "CapacityReached")
        self.assertIsNone(self.tell("do", ("put", "a", "b", "a")))
        self.assertIsNone(self.tell("do", ("drop", "a")))
        self.assertEqual(self.tell("do", ("add", "d", "a", "b")), "CapacityReached")
        self.assertEqual(self.tell("set_limit", 1), "InvalidLimit")
        self.assertIsNone(self.tell("undo"))
        self.assertEqual(self.store.limit, 1)

    def test_by_keyword(self):
        store = Store()
        self.assertIsNone(store.set_limit(limit=4))
        self.assertEqual(store.limit, 4)


class Trials(unittest.TestCase):
    def setUp(self):
        self.store = filled([("one", "a", "b")], [("q", "a", "b"), ("r", "b", "a"), ("p", *SPREADING)])
        self.store.answer("q")
        self.store.undo()

    def test_kinds(self):
        self.store.redo()
        self.assertEqual(self.store.trial([]), [("p", "spreading"), ("q", "always"), ("r", "never")])
        self.assertEqual(self.store.trial([("drop", "one"), ("forget", "p")]), [("q", "never"), ("r", "never")])
        self.assertEqual(self.store.trial(commands=(("put", "one", "b", "a"), ("forget", "p"), ("ask", "a", "a", "a"))),
                         [("a", "always"), ("q", "never"), ("r", "always")])
        self.assertEqual(Store().trial([]), [])

    def test_nothing_changes(self):
        for commands in ([], [("drop", "one")], [("forget", "q"), ("ask", "q", "c", "c")], [("add", "two", "b", "a")]):
            before, twin = seen(self.store), self.store.twin()
            found = self.store.trial(commands)
            found.clear()
            self.assertEqual(seen(self.store), before)
            self.assertEqual(self.store, twin)
            self.assertEqual(self.store.kept(), ["q"])
        self.store.redo()
        self.assertEqual(self.store.questions()[0][0], "p")

    def test_stopped(self):
        before = seen(self.store)
        for commands, at, cause in [([()], 0, "InvalidCommand"), ([("drop", "one"), ("drop", "one")], 1, "UnknownRule"),
                                    ([("forget", "x")], 0, "UnknownQuestion"), ([("add", "A", "a", "b")], 0, "InvalidName"),
                                    ([("ask", "q", "a", "b")], 0, "NameInUse"), ([("put", "one", "a", 5)], 0, "InvalidTerm"),
                                    ([("drop", "one"), ("put", "one", "a", "b")], 1, "UnknownRule")]:
            with self.assertRaises(Stopped) as caught:
                self.store.trial(commands)
            self.assertEqual([caught.exception.index, caught.exception.cause], [at, cause])
            self.assertEqual(seen(self.store), before)


class Twins(unittest.TestCase):
    def test_both_go_apart(self):
        for made_by in (Store, LoggedStore):
            store = filled([("one", "a", "b"), ("two", "b", "c")], [("q", "a", "c"), ("r", "c", "a")], made_by)
            store.answer("q")
            store.undo()
            store.limit = 7
            twin = store.twin()
            self.assertIs(type(twin), made_by)
            self.assertIsNot(twin, store)
            self.assertEqual(seen(twin), seen(store))
            self.assertEqual(twin.answer("q"), store.answer("q"))
            before = seen(store)
            for change in (lambda: twin.redo(), lambda: twin.do(("drop", "one")), lambda: twin.undo(),
                           lambda: twin.set_limit(9), lambda: twin.do_all([("forget", "q")]), lambda: twin.answer("r"),
                           lambda: twin.undo(), lambda: twin.undo()):
                change()
                self.assertEqual(seen(store), before)
            after = seen(twin)
            store.redo()
            store.do(("drop", "two"))
            store.answer("r")
            store.limit = 3
            self.assertEqual(seen(twin), after)


class Equality(unittest.TestCase):
    def test_contents_count_and_nothing_else(self):
        rules, asked = [("one", "a", "b"), ("two", "b", "c")], [("q", "a", "c"), ("r", "c", "a")]
        for made_by in (Store, LoggedStore):
            one, other = filled(rules, asked), filled(rules, asked[::-1], made_by)
            other.do(("drop", "two"))
            self.assertIs(one == other, False)
            self.assertIs(other == one, False)
            other.undo()
            other.answer("q")
            other.limit = 4
            self.assertIs(one == other, True)
            self.assertIs(other == one, True)
            self.assertIs(one != other, False)
            self.assertIs(one == filled(rules[::-1], asked, made_by), False)
            self.assertIs(one == filled(rules, asked[:1], made_by), False)
            self.assertIs(one == filled(rules, [("q", "a", "c"), ("s", "c", "a")], made_by), False)
            self.assertIs(one == filled(rules, [("q", "a", "c"), ("r", "a", "c")], made_by), False)
            self.assertIs(one == filled([("one", "a", "b"), ("two", "b", "b")], asked, made_by), False)

    def test_nothing_else(self):
        for store in (Store(), LoggedStore(), filled([("one", "a", "b")])):
            for value in [None, True, False, 0, 1, "", repr(store), store.rules(), (), [], {}, Store, object(),
                          (store.rules(), store.questions()), [store]]:
                self.assertIs(store == value, False)
                self.assertIs(value == store, False)
                self.assertIs(store != value, True)

    def test_measures(self):
        store = filled([("one", "a", "b"), ("two", "b", "c")], [("q", "a", "c")])
        self.assertEqual([len(store), repr(store), repr(Store()), len(Store())],
                         [2, "Store(2 rules, 1 questions)", "Store(0 rules, 0 questions)", 0])
        self.assertEqual(repr(filled([("one", "a", "b")], [], LoggedStore)), "Store(1 rules, 0 questions)")
        for name, expected in [("one", True), ("two", True), ("q", False), ("", False), ("on", False), ("a", False),
                               ("not a name", False)]:
            self.assertIs(name in store, expected)
            self.assertIs(name not in store, not expected)

    def test_rules_and_questions(self):
        store = filled([("b", "a", "b"), ("a", "b", "c")], [("z", "a", "c"), ("b", "a", "b"), ("m", "b", "a")])
        self.assertEqual(store.rules(), [("b", "a", "b"), ("a", "b", "c")])
        self.assertEqual(store.questions(), [("b", "a", "b"), ("m", "b", "a"), ("z", "a", "c")])
        self.assertEqual(store.rule("a"), ("a", "b", "c"))
        self.assertEqual(store.rule(name="b"), ("b", "a", "b"))
        store.do(command=("put", "b", "c", "a"))
        self.assertEqual(store.rules(), [("b", "c", "a"), ("a", "b", "c")])
        store.do_all(commands=[("drop", "b"), ("add", "b", "a", "a")])
        self.assertEqual(store.rules(), [("a", "b", "c"), ("b", "a", "a")])
        self.assertEqual(store.answer(name="m").kind, "never")


class Logged(Compared):
    def test_done_and_refused(self):
        self.begin(LoggedStore)
        self.assertEqual([self.store.done(), self.store.refused()], [[], 0])
        first, second = ("add", "one", "a", "b"), ("ask", "q", "a", "b")
        self.tell("do", first)
        self.tell("do", first)
        self.tell("do_all", [second, ("drop", "one")])
        self.tell("do_all", [("add", "x", "a", "b"), ("drop", "one")])
        self.tell("do_all", [])
        self.tell("undo")
        self.tell("undo")
        self.tell("redo")
        self.assertEqual(self.tell("do", ()), "InvalidCommand")
        self.assertEqual(self.store.done(), [first, second, ("drop", "one")])
        self.assertEqual(self.store.refused(), 3)
        for _ in range(5):
            self.tell("undo")
        self.assertRaises(Stopped, self.store.trial, [("drop", "none")])
        self.assertEqual(self.store.trial([("ask", "z", "a", "b")]), [("z", "never")])
        self.assertRaises(InvalidLimit, self.store.set_limit, 0)
        self.assertRaises(UnknownRule, self.store.rule, "none")
        self.assertRaises(UnknownQuestion, self.store.answer, "none")
        self.assertEqual([len(self.store.done()), self.store.refused()], [3, 3])

    def test_twins_have_their_own(self):
        store = filled([("one", "a", "b")], [], LoggedStore)
        self.assertRaises(UnknownRule, store.do, ("drop", "x"))
        twin = store.twin()
        twin.do(("drop", "one"))
        self.assertRaises(UnknownRule, twin.do, ("drop", "one"))
        self.assertEqual([store.done(), store.refused()], [[("add", "one", "a", "b")], 1])
        self.assertEqual([twin.done(), twin.refused()], [[("add", "one", "a", "b"), ("drop", "one")], 2])

    def test_a_new_list_each_time(self):
        store = filled([("one", "a", "b")], [], LoggedStore)
        store.done().clear()
        commands = [("ask", "q", "a", "b")]
        store.do_all(commands)
        commands.append(("drop", "one"))
        self.assertEqual(store.done(), [("add", "one", "a", "b"), ("ask", "q", "a", "b")])

    def test_it_is_a_store(self):
        self.assertEqual(LoggedStore.__bases__, (Store,))
        store = filled([("one", "a", "b")], [], LoggedStore)
        store.limit = 3
        self.assertEqual([store.limit, store.made, "one" in store], [3, 0, True])


class Held(unittest.TestCase):
    """[2]: results and arguments over further steps."""

    def test_results_stay_and_may_be_changed(self):
        store = filled([("one", "a", "b")], [("q", "a", "b")], LoggedStore)
        store.answer("q")
        calls = [store.rules, store.questions, store.kept, store.done, lambda: store.trial([])]
        held = [call() for call in calls]
        kept = copy.deepcopy(held)
        store.do_all([("add", "two", "b", "a"), ("forget", "q"), ("ask", "z", "a", "c")])
        self.assertEqual(held, kept)
        now = [call() for call in calls]
        for result in [call() for call in calls]:
            result.append(None)
            result.clear()
        self.assertEqual([call() for call in calls], now)
        store.undo()
        self.assertEqual(held[:2], [store.rules(), store.questions()])

    def test_arguments_may_be_changed(self):
        store = Store()
        commands = [("add", "one", "a", "b"), ("ask", "q", "a", "b")]
        store.do_all(commands)
        commands[0] = ("drop", "one")
        commands.clear()
        self.assertEqual([store.rules(), store.questions()], [[("one", "a", "b")], [("q", "a", "b")]])
        store.undo()
        store.redo()
        self.assertEqual(store.rules(), [("one", "a", "b")])

    def test_states_that_were_left_are_not_changed_by_later_steps(self):
        store = filled([("one", "a", "b"), ("two", "b", "c")])
        store.do(("put", "one", "c", "a"))
        store.rules().clear()
        store.undo()
        self.assertEqual(store.rules(), [("one", "a", "b"), ("two", "b", "c")])
        store.redo()
        self.assertEqual(store.rules(), [("one", "c", "a"), ("two", "b", "c")])


class Largest(unittest.TestCase):
    def test_how_long_it_takes(self):
        rules, goal = questions.full_question()
        terms = questions.plain_vocabulary(rules, goal)
        store = filled(rules)
        for at, name in enumerate(questions.names(8)):
            store.do(("ask", name, terms[at], terms[-1 - at]))
        before = time.perf_counter()
        for name, left, right in store.questions():
            store.answer(name)
        for rule in rules:
            store.do(("drop", rule[0]))
            store.undo()
            store.trial([("drop", rule[0])])
        self.assertLess(time.perf_counter() - before, 20)


class Interface(unittest.TestCase):
    def test_names(self):
        self.assertEqual([MAX_QUESTIONS, module.MAX_QUESTIONS], [8, 8])
        self.assertEqual([Store.__module__, LoggedStore.__module__], [module.__name__] * 2)
        for name in STORED:
            self.assertIn(name, vars(Store))
        for name in ("done", "refused", "do", "do_all", "twin", "__eq__", "__repr__"):
            self.assertIn(name, vars(LoggedStore))
        self.assertEqual([type(vars(Store)[name]) for name in ("made", "limit")], [property, property])

    def test_made_cannot_be_assigned(self):
        store = Store()
        with self.assertRaises(AttributeError):
            store.made = 5


if __name__ == "__main__":
    unittest.main()
