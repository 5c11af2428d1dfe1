"""[9] and fivefault/reports.py: reports."""

import unittest

from fivefault import reports as module
from fivefault.reports import report
from fivefault.store import LoggedStore, Store
from tests import questions
from tests.test_documents import random_stores
from tests.test_store import SPREADING, filled


class Reports(unittest.TestCase):
    def test_columns(self):
        store = filled([("one", "a", "b")], [("z", "a", "b"), ("abcdef", "b", "a"), ("m", *SPREADING)])
        size = len(str(store.answer("m").size))
        self.assertEqual(report(store), "abcdef  never" + " " * 10 + "2\n"
                         + "m       spreading" + " " * (7 - size) + str(store.answer("m").size) + "\n"
                         + "z       always" + " " * 9 + "1\n")

    def test_line_by_line(self):
        for store in random_stores(60, seed=610):
            text = report(store)
            self.assertTrue(text == "" or text.endswith("\n"))
            lines = text.split("\n")[:-1]
            rows = store.questions()
            self.assertEqual(len(lines), len(rows))
            for line, row in zip(lines, rows):
                found = store.answer(row[0])
                self.assertEqual(len(line), 24)
                self.assertEqual([line[:8], line[8:18], line[18:]],
                                 [row[0].ljust(8), found.kind.ljust(10), str(found.size).rjust(6)])

    def test_the_empty_report(self):
        self.assertEqual(report(Store()), "")
        self.assertEqual(report(filled([("one", "a", "b")])), "")

    def test_all_answers_are_kept_then(self):
        for made_by in (Store, LoggedStore):
            store = filled([("one", "a", "b")], [("b", "a", "b"), ("a", "b", "a"), ("c", "a", "a")], made_by)
            store.answer("b")
            text = report(store=store)
            self.assertEqual([store.kept(), store.made], [["a", "b", "c"], 3])
            self.assertEqual(report(store), text)
            self.assertEqual([store.made, store.history()], [3, (4, 0)])

    def test_kept_answers_are_reported_as_they_are(self):
        store = filled([("one", "c", "d")], [("q", "a", "b")])
        report(store)
        store.do(("drop", "one"))
        self.assertEqual(report(store), "q       never" + " " * 10 + "4\n")
        self.assertEqual(report(filled([], [("q", "a", "b")])), "q       never" + " " * 10 + "2\n")

    def test_large_sizes(self):
        rules, goal = questions.full_question()
        store = filled(rules, [("q", *goal)])
        self.assertEqual(report(store)[8:18], "always    ")

    def test_it_is_defined_in_its_file(self):
        self.assertEqual(module.report.__module__, "fivefault.reports")


if __name__ == "__main__":
    unittest.main()
