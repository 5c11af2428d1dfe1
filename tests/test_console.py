"""[24] and fivefault/console.py: consoles."""

import random
import unittest

from fivefault import console as module
from fivefault.console import Console
from fivefault.cores import core
from fivefault.errors import FaultError, Missing, NothingLeft
from fivefault.store import LoggedStore, Store
from tests import plain_store, questions, samples
from tests.test_documents import plain_rule
from tests.test_store import SPREADING, filled, seen


def plain_text(row):
    return row[0] + ": " + samples.plain_text(row[1]) + " < " + samples.plain_text(row[2])


def words_or_none(items):
    return " ".join(items) if items else "none"


def plain_reply(store, line):
    """[24], form by form, with a store of its own."""
    words = line.split(" ")
    if "" in words:
        return "unknown"
    word, rest = words[0], line.partition(" ")[2]
    try:
        if word in ("add", "put", "ask"):
            found = plain_rule(rest)
            if found is None:
                return "unknown"
            store.do((word, *found))
            return "ok"
        if len(words) == 1 and word in ("undo", "redo"):
            store.undo() if word == "undo" else store.redo()
            return "ok"
        if len(words) == 1 and word in ("rules", "questions"):
            return words_or_none([row[0] for row in (store.rules() if word == "rules" else store.questions())])
        if line == "made":
            return str(store.made)
        if len(words) == 2 and word in ("drop", "forget"):
            store.do((word, words[1]))
            return "ok"
        if len(words) == 2 and word == "show":
            return plain_text(store.rule(words[1]))
        if len(words) == 2 and word in ("kind", "core", "case"):
            return plain_told(store, word, words[1])
    except (FaultError, Missing, NothingLeft) as error:
        return "error " + error.code
    return "unknown"


def plain_told(store, word, name):
    found = store.answer(name)
    if word == "kind":
        return found.kind
    if word == "core":
        names = core(store.rules(), found.goal)
        return "no" if names is None else words_or_none(names)
    if found.kind != "never":
        return "no"
    return " ".join(letter + "=" + ("1" if value else "0") for letter, value in sorted(found.certificate.items()))


def command_line(source, model):
    """The line of a random command, if its terms have texts; else any line with its words."""
    command = plain_store.random_command(source, model)
    if len(command) == 4 and all(samples.has_form(term) for term in command[2:]):
        return command[0] + " " + plain_text(command[1:])
    return " ".join(str(item) for item in command)


def random_line(source, model):
    """A line of some form, that often fits the store."""
    way = source.random()
    if way < 0.6:
        return command_line(source, model)
    if way < 0.7:
        return source.choice(["undo", "undo", "redo", "rules", "questions", "made"])
    names = [rule[0] for rule in model.rules] + sorted(model.asked) + plain_store.NAMES[:2]
    return source.choice(["show", "kind", "core", "case"]) + " " + source.choice(names)


class Told(unittest.TestCase):
    def check(self, console, twin, line):
        """Say a line, and compare the answer and all that can be seen then with a twin of the store."""
        many = len(console)
        before = seen(console.store)
        expected = plain_reply(twin, line)
        found = console.say(line) if many % 2 else console(line)
        self.assertEqual(found, expected, line)
        self.assertEqual(seen(console.store), seen(twin), line)
        self.assertEqual(len(console), many + 1)
        if expected == "unknown":
            self.assertEqual(seen(console.store), before)
        return found

    def test_examples(self):
        console = Console()
        for line, expected in [
                ("rules", "none"), ("questions", "none"), ("made", "0"), ("undo", "error NothingLeft"),
                ("redo", "error NothingLeft"), ("add two: a < b", "ok"), ("add one: b < c & d", "ok"),
                ("rules", "two one"), ("show one", "one: b < c & d"), ("show three", "error UnknownRule"),
                ("add one: a < b", "error NameInUse"), ("ask z: a < c", "ok"), ("ask b: c < a", "ok"),
                ("questions", "b z"), ("kind z", "always"), ("core z", "one two"), ("case z", "no"), ("kind b", "never"),
                ("core b", "no"), ("case b", "a=0 b=0 c=1 d=0"), ("made", "2"), ("put two: b < a", "ok"),
                ("kind z", "never"), ("made", "3"), ("case z", "a=1 b=0 c=0 d=0"), ("drop two", "ok"), ("undo", "ok"),
                ("redo", "ok"), ("redo", "error NothingLeft"), ("forget z", "ok"), ("kind z", "error UnknownQuestion"),
                ("drop z", "error UnknownRule"), ("forget one", "error UnknownQuestion"), ("ask s: a < a", "ok"),
                ("core s", "none"), ("rules", "one"), ("questions", "b s"), ("core q", "error UnknownQuestion"),
                ("case q", "error UnknownQuestion"), ("put q: a < b", "error UnknownRule")]:
            self.assertEqual(console.say(line), expected, line)
        self.assertEqual(len(console), 40)

    def test_random_lines(self):
        source = random.Random(620)
        answers = []
        for _ in range(120):
            store = source.choice([Store, LoggedStore])()
            console, twin = Console(store=store), store.twin()
            model = plain_store.PlainStore()
            for _ in range(source.randint(5, 40)):
                model.rules, model.asked = twin.rules(), {row[0]: row[1:] for row in twin.questions()}
                line = random_line(source, model)
                if source.random() < 0.15:
                    line = self.bent(source, line)
                answers.append(self.check(console, twin, line))
        for expected in ("ok", "unknown", "none", "no", "always", "never", "error NameInUse", "error UnknownRule",
                         "error UnknownQuestion", "error NothingLeft"):
            self.assertTrue(answers.count(expected) > 5, expected)

    def bent(self, source, line):
        at = source.randrange(len(line) + 1)
        more = source.choice([" ", "  ", "a", "i", ":", "<", "&", "(", ")", "\n", "X", " a", "1"])
        return source.choice([line[:at] + more + line[at:], line[:at] + line[at + 1:], line[:at] + more + line[at + 1:]])

    def test_each_form_changed_at_each_place(self):
        rules, asked = [("one", "a", "b"), ("two", ("&", "a", "c"), "b")], [("q", "a", "b"), ("r", "b", "a")]
        lines = ["add new: a & b < c", "put one: a < (b | c) & a", "ask new: a < b", "drop one", "forget q", "undo", "redo",
                 "rules", "questions", "show one", "kind q", "core q", "case r", "made"]
        unknown = 0
        for line in lines:
            for at in range(len(line) + 1):
                for more in ["", " ", "a", "z", "\n", "&", "(", "A", ":"]:
                    for other in (line[:at] + more + line[at:], line[:at] + more + line[at + 1:]):
                        store = filled(rules, asked)
                        unknown += self.check(Console(store=store), store.twin(), other) == "unknown"
        self.assertTrue(unknown > 1000)

    def test_lines_of_no_form(self):
        store = filled([("one", "a", "b")], [("q", "a", "b")])
        store.answer("q")
        store.undo()
        console = Console(store=store)
        before = seen(store)
        lines = ["", " ", "  ", "\n", "help", "Undo", "UNDO", "undo ", " undo", "undo undo", "undo 1", "redo x", "rules one",
                 "questions q", "made 1", "drop", "drop ", "drop one two", "drop  one", "forget", "show", "show one two",
                 "kind", "kind q r", "core", "core  q", "case", "case q ", " case q", "add", "add ", "put", "ask", "add one",
                 "add one:", "add one: a", "add one: a <", "add one: a < ", "add new: a < i", "add New: a < b",
                 "add abcdefg: a < b", "add : a < b", "add new:a < b", "add new : a < b", "add new: a  < b",
                 "add new: a < b ", "add new: (a) < b", "add new: a & b | c < d", "add new: a < b < c",
                 "add new: a < " + "(" * 2000, "add new: a < b\n", "ask q a < b", "ask new: a < b, c < d", "undo\n",
                 "put one: a < " + samples.plain_text(samples.tower(6)), "add rule one: a < b", "rule one: a < b",
                 "question q: a < b", "limit", "limit 3", "history", "kept", "trial", "add new: " + " < ".join("ab") + " ",
                 "ask new: " + samples.plain_text(samples.row(25)) + " < a"]
        for line in lines:
            self.assertEqual(console.say(line), "unknown", line)
            self.assertEqual(seen(store), before)
        self.assertEqual(len(console), len(lines))

    def test_any_word_stands_for_a_name_alone(self):
        console = Console(store=filled([("one", "a", "b")], [("q", "a", "b")]))
        for name in ["x", "X", "1", "one:", "abcdefgh", "&", "a\nb", "\n", "undo", "(", "-", "none", "~", "x" * 3000]:
            for word in ("drop", "show"):
                self.assertEqual(console(word + " " + name), "error UnknownRule")
            for word in ("forget", "kind", "core", "case"):
                self.assertEqual(console(word + " " + name), "error UnknownQuestion")

    def test_errors_of_commands(self):
        store = filled([(name, "a", "b") for name in questions.names(12)], [(name, "a", "b") for name in questions.names(8)])
        console = Console(store=store)
        self.assertEqual(console("add last: a < b"), "error CapacityReached")
        self.assertEqual(console("ask last: a < b"), "error CapacityReached")
        self.assertEqual(console("drop " + questions.names(1)[0]), "ok")
        store.limit = 11
        self.assertEqual(console("add last: a < b"), "error CapacityReached")
        console = Console(store=filled(questions.rules_with(24)))
        self.assertEqual(console("add last: a < a & h"), "error TooManyTerms")
        self.assertEqual(console("ask last: a < a & h"), "error TooManyTerms")
        self.assertEqual(console("ask last: a < h"), "ok")

    def test_the_core_is_that_of_the_rules_of_now(self):
        console = Console(store=filled([("b", "a", "b"), ("c", "b", "c")], [("q", "a", "c")]))
        self.assertEqual(console("core q"), "b c")
        self.assertEqual(console("add a: a < c"), "ok")
        self.assertEqual([console("core q"), console("made")], ["b c", "1"])
        self.assertEqual(console("add d: a < c"), "ok")
        self.assertEqual([console("core q"), console("made")], ["d", "1"])
        self.assertEqual(console.store.kept(), ["q"])

    def test_the_case_is_that_of_the_answer(self):
        console = Console(store=filled([("one", "c", "d")], [("q", "a", "b")]))
        self.assertEqual(console("case q"), "a=1 b=0 c=0 d=0")
        self.assertEqual(console("drop one"), "ok")
        self.assertEqual([console("case q"), console("made")], ["a=1 b=0 c=0 d=0", "1"])

    def test_asking_keeps_the_answer(self):
        for word, expected in [("kind", "spreading"), ("core", "no"), ("case", "no")]:
            console = Console(store=filled([], [("q", *SPREADING)]))
            self.assertEqual(console(word + " q"), expected)
            self.assertEqual([console.store.kept(), console("made")], [["q"], "1"])


class Consoles(unittest.TestCase):
    def test_the_very_store(self):
        for store in (Store(), LoggedStore(), filled([("one", "a", "b")])):
            console = Console(store=store)
            self.assertIs(console.store, store)
            console.say("add new: a < b")
            self.assertIn("new", store)
            store.do(("drop", "new"))
            self.assertEqual(console.say("show new"), "error UnknownRule")
            self.assertIs(console.store, store)

    def test_a_new_store(self):
        one, other = Console(), Console(store=None)
        self.assertIs(type(one.store), Store)
        self.assertEqual(one.store, Store())
        one.say("add one: a < b")
        self.assertEqual([len(one.store), len(other.store)], [1, 0])
        self.assertIs(one.store, one.store)

    def test_the_store_by_keyword_only(self):
        self.assertRaises(TypeError, Console, Store())
        with self.assertRaises(AttributeError):
            Console().store = Store()

    def test_len_and_call(self):
        console = Console()
        self.assertEqual(len(console), 0)
        for at, line in enumerate(["made", "", "undo", "no such line", "add one: a < b"]):
            console(line) if at % 2 else console.say(line=line)
            self.assertEqual(len(console), at + 1)
        self.assertEqual(console(line="rules"), "one")

    def test_a_logged_store_notes_what_is_said(self):
        store = LoggedStore()
        console = Console(store=store)
        for line in ["add one: a < b", "add one: a < b", "drop x", "undo", "redo", "unknown", "add X: a < b", "drop one"]:
            console(line)
        self.assertEqual([store.done(), store.refused()], [[("add", "one", "a", "b"), ("drop", "one")], 2])

    def test_names(self):
        self.assertEqual(Console.__module__, module.__name__)
        for name in ("__init__", "say", "__call__", "store", "__len__"):
            self.assertIn(name, vars(Console))
        self.assertIs(type(vars(Console)["store"]), property)


if __name__ == "__main__":
    unittest.main()
