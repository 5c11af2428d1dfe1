"""[23] and fivefault/documents.py: the texts of stores."""

import random
import time
import unittest

from fivefault import documents as module
from fivefault.documents import read_store, write_store
from fivefault.errors import FaultError, InvalidDocument, Missing
from fivefault.store import LoggedStore, Store
from fivefault.syntax import parse_rule
from tests import plain_store, questions, samples
from tests.plain_store import Refused
from tests.test_store import filled


def plain_lines(store):
    """[23]: the lines of a store, without line feeds."""
    def text(row):
        return row[0] + ": " + samples.plain_text(row[1]) + " < " + samples.plain_text(row[2])

    return ["rule " + text(rule) for rule in store.rules()] + ["question " + text(row) for row in store.questions()]


def plain_rule(text):
    """The name and the terms of a text, or None: the text must be the only one that its terms have."""
    try:
        name, left, right = parse_rule(text)
    except FaultError:
        return None
    return (name, left, right) if text == f"{name}: {samples.plain_text(left)} < {samples.plain_text(right)}" else None


def first_wrong(text):
    """[23]: the index of the first wrong line of a text, or None."""
    rows = text.split("\n")
    rules, asked, last = [], {}, ""
    for at, row in enumerate(rows[:-1]):
        word, space, rest = row.partition(" ")
        found = plain_rule(rest)
        if found is None or word not in ("rule", "question"):
            return at
        if word == "rule" and asked or word == "question" and found[0] <= last:
            return at
        last = found[0] if word == "question" else last
        try:
            rules, asked = plain_store.plain_apply(rules, asked, ("add" if word == "rule" else "ask", *found), 12)
        except Refused:
            return at
    return len(rows) - 1 if rows[-1] else None


def random_stores(count, seed, made_by=Store):
    """Stores after many random commands."""
    source = random.Random(seed)
    found = [made_by()]
    for _ in range(count):
        store, model = made_by(), plain_store.PlainStore()
        for _ in range(source.randint(1, 30)):
            command = plain_store.random_command(source, model)
            try:
                store.do(command)
            except (FaultError, Missing):
                continue
            model.do(command)
        found.append(store)
    return found


class Writing(unittest.TestCase):
    def test_line_by_line(self):
        for store in random_stores(60, seed=600) + random_stores(5, seed=601, made_by=LoggedStore):
            self.assertEqual(write_store(store), "".join(line + "\n" for line in plain_lines(store)))

    def test_examples(self):
        self.assertEqual(write_store(Store()), "")
        store = filled([("two", ("&", "b", ("|", "a", "c")), "a"), ("one", "a", "b")], [("z", "a", "b"), ("b", "b", "a")])
        self.assertEqual(write_store(store=store), "rule two: b & (a | c) < a\nrule one: a < b\n"
                                                   "question b: b < a\nquestion z: a < b\n")

    def test_steps_answers_and_the_limit_are_not_written(self):
        store = filled([("one", "a", "b")], [("q", "a", "b")])
        text = write_store(store)
        store.answer("q")
        store.limit = 3
        store.do(("add", "two", "b", "a"))
        store.undo()
        self.assertEqual(write_store(store), text)
        self.assertEqual([store.made, store.history(), store.kept()], [1, (2, 1), ["q"]])


class Reading(unittest.TestCase):
    def verdict(self, text):
        """Read a text, which must be refused exactly at the first wrong line. Returns the index of that line."""
        expected = first_wrong(text)
        try:
            found = read_store(text)
        except InvalidDocument as error:
            self.assertEqual(error.line, expected, text)
        else:
            self.assertIsNone(expected, text)
            self.assertEqual(write_store(found), text)
            self.assertIs(type(found), Store)
            self.assertEqual([found.history(), found.kept(), found.made, found.limit], [(0, 0), [], 0, 12])
        return expected

    def test_what_was_written(self):
        for store in random_stores(80, seed=602):
            found = read_store(write_store(store))
            self.assertEqual(found, store)
            self.assertEqual([found.rules(), found.questions()], [store.rules(), store.questions()])
            self.assertIsNone(self.verdict(write_store(store)))
            for name, left, right in found.questions():
                self.assertEqual(found.answer(name).kind, store.answer(name).kind)

    def test_examples(self):
        self.assertEqual(read_store(""), Store())
        self.assertEqual(read_store(text="rule one: a < b\n"), filled([("one", "a", "b")]))
        for text, line in [("\n", 0), ("rule one: a < b", 0), ("rule one: a < b\n\n", 1), (" ", 0), ("rule\n", 0),
                           ("rule one: a < b\nrule two: a < b", 1), ("rule one: a < b\nrule one: a < c\n", 1),
                           ("question q: a < b\nrule one: a < b\n", 1), ("question b: a < b\nquestion a: a < b\n", 1),
                           ("question b: a < b\nquestion b: a < b\n", 1), ("rule  one: a < b\n", 0), ("x\n", 0),
                           ("rule one:a < b\n", 0), ("rule One: a < b\n", 0), ("Rule one: a < b\n", 0),
                           ("rule one: a<b\n", 0), ("rule one: a < b \n", 0), (" rule one: a < b\n", 0),
                           ("rule one: (a) < b\n", 0), ("rule one: a < b & c | d\n", 0), ("one: a < b\n", 0),
                           ("question one: a < i\n", 0), ("rule one: a < b\nx", 1), ("x\ny", 0), ("question: a < b\n", 0),
                           ("add one: a < b\n", 0), ("ask q: a < b\n", 0), ("\nrule one: a < b\n", 0),
                           ("rule question: a < b\n", 0), ("rule rule: a < b\nquestion rule: a < b\n", None)]:
            self.assertEqual(self.verdict(text), line, text)

    def test_the_same_name_for_a_rule_and_a_question(self):
        self.assertIsNone(self.verdict("rule one: a < b\nquestion one: a < b\n"))

    def test_lines_exchanged_repeated_dropped_changed_and_added(self):
        source = random.Random(603)
        wrong = right = 0
        for store in random_stores(60, seed=604):
            lines = plain_lines(store)
            for _ in range(25):
                other = self.changed(source, list(lines))
                text = "".join(line + "\n" for line in other)
                if source.random() < 0.1:
                    text = text[:-1]
                found = self.verdict(text)
                wrong += found is not None
                right += found is None
        self.assertTrue(wrong > 400 and right > 100, (wrong, right))

    def changed(self, source, lines):
        """The lines with something done to one or two of them."""
        way = source.randrange(7)
        at, other = source.randrange(len(lines) + 1), source.randrange(len(lines) + 1)
        if way == 0 and lines:
            at, other = at % len(lines), other % len(lines)
            lines[at], lines[other] = lines[other], lines[at]
        elif way == 1 and lines:
            lines.insert(at, lines[other % len(lines)])
        elif way == 2 and lines:
            del lines[at % len(lines)]
        elif way in (3, 4) and lines:
            lines[at % len(lines)] = self.bent(source, lines[at % len(lines)])
        elif way == 5:
            lines.insert(at, source.choice(["", " ", "rule new: a < b", "question new: a < b", "rule", "question",
                                            "rule a: a < a", "question zz: b < b", "undo", "rule new: a < " + "(" * 500]))
        else:
            lines = lines[::-1]
        return lines

    def bent(self, source, line):
        """A line with a character put in, left out or exchanged."""
        at = source.randrange(len(line) + 1)
        more = source.choice(" abi&|()<:\nRx1")
        return source.choice([line[:at] + more + line[at:], line[:at] + line[at + 1:], line[:at] + more + line[at + 1:]])

    def test_without_the_last_line_feed(self):
        for store in random_stores(20, seed=605):
            text = write_store(store)
            if text:
                self.assertEqual(self.verdict(text[:-1]), text.count("\n") - 1)
                self.assertEqual(self.verdict(text + "x"), text.count("\n"))
                self.assertEqual(self.verdict(text + "\n"), text.count("\n"))
                self.assertEqual(self.verdict("\n" + text), 0)

    def test_limits(self):
        rules = [f"rule {name}: a < b\n" for name in [*questions.names(12), "last"]]
        self.assertIsNone(self.verdict("".join(rules[:12])))
        self.assertEqual(self.verdict("".join(rules)), 12)
        asked = [f"question {name}: a < b\n" for name in sorted([*questions.names(8), "zzz"])]
        self.assertIsNone(self.verdict("".join(asked[:8])))
        self.assertEqual(self.verdict("".join(asked)), 8)
        self.assertIsNone(self.verdict("".join(rules[:12] + asked[:8])))
        for count in (24, 25):
            store = filled(questions.rules_with(24))
            text = "".join(f"rule {name}: {samples.plain_text(left)} < {samples.plain_text(right)}\n"
                           for name, left, right in questions.rules_with(count))
            self.assertEqual(self.verdict(text), None if count == 24 else text.count("\n") - 1)
            text = write_store(store) + "question q: a < h\n"
            self.assertIsNone(self.verdict(text))
            self.assertEqual(self.verdict(text + "question r: a < a & h\n"), text.count("\n"))

    def test_long_texts(self):
        before = time.perf_counter()
        for text in ["rule one: a < b\n" * 1000, "\n" * 20000, "x" * 20000, "(" * 20000 + "\n", "rule a: " + "(" * 9000,
                     "rule a: " + "(" * 9000 + "\n", "question " * 2000 + "\n", " \n" * 9000]:
            self.assertIsNotNone(self.verdict(text))
        self.assertLess(time.perf_counter() - before, 5)


class Interface(unittest.TestCase):
    def test_all_are_defined_in_their_file(self):
        for name in ("write_store", "read_store"):
            self.assertEqual(getattr(module, name).__module__, "fivefault.documents")

    def test_the_store_that_was_read_is_a_store_like_others(self):
        store = read_store("rule one: a < b\nquestion q: a < b\n")
        store.do(("drop", "one"))
        store.undo()
        self.assertEqual([store.history(), store.rules()], [(0, 1), [("one", "a", "b")]])
        other = read_store("")
        self.assertEqual([other.rules(), other.history()], [[], (0, 0)])


if __name__ == "__main__":
    unittest.main()
