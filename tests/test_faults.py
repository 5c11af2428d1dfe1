"""[14] and fivefault/faults.py: the faults of boards."""

import copy
import itertools
import random
import time
import unittest

from fivefault import faults as module
from fivefault.boards import Board
from fivefault.faults import find_fault, is_fault
from tests import orders, questions


def large_rows():
    """Rows of boards with 48 to 60 places."""
    source = random.Random(110)
    found = [orders.chain_rows(60), orders.fan_rows(58), orders.product_rows(orders.fan_rows(3), orders.chain_rows(12)),
             orders.product_rows(orders.LADDER, orders.chain_rows(12)),
             orders.product_rows(orders.chain_rows(6), orders.chain_rows(10)),
             orders.product_rows(orders.cube_rows(4), orders.chain_rows(3)),
             orders.product_rows(orders.product_rows(orders.LADDER, orders.FAN), orders.chain_rows(2))]
    return found + [orders.mixed_rows(rows, source) for rows in found]


def hundred_calls(call):
    """The seconds that a hundred calls take: the least of three times, as other programs run beside the tests."""
    times = []
    for _ in range(3):
        before = time.perf_counter()
        for _ in range(100):
            call()
        times.append(time.perf_counter() - before)
    return min(times)


def space_rows():
    """The rows of the subspaces of a space with eight points: a board with fans, without ladders."""
    spaces = set()
    for many in range(4):
        for points in itertools.combinations(range(1, 8), many):
            space = {0}
            for point in points:
                space |= {point ^ other for other in space}
            spaces.add(frozenset(space))
    return orders.rows_of(sorted(spaces, key=sorted), lambda one, other: one <= other)


SUBSPACES = space_rows()
# The ways to part four things: two places right above one have an up right above both, but not the other way round.
SEMIMODULAR = orders.rows_of([(0, 1, 2, 3), (0, 0, 2, 3), (0, 1, 0, 3), (0, 1, 2, 0), (0, 1, 1, 3), (0, 1, 2, 1),
                              (0, 1, 2, 2), (0, 0, 0, 3), (0, 0, 2, 0), (0, 1, 0, 0), (0, 1, 1, 1), (0, 0, 2, 2),
                              (0, 1, 0, 1), (0, 1, 1, 0), (0, 0, 0, 0)],
                             lambda one, other: all(other[x] == other[y] for x in range(4) for y in range(x)
                                                    if one[x] == one[y]))


class FindFault(unittest.TestCase):
    def test_a_fault_exactly_if_the_board_does_not_spread(self):
        kinds = set()
        for rows in orders.board_rows() + orders.board_rows(seed=111):
            tables = orders.Tables(rows)
            found = find_fault(Board(rows))
            self.assertIs(found is None, tables.spreads())
            if found is not None:
                self.assertTrue(tables.is_fault(found), found)
                self.assertIs(is_fault(Board(rows), found), True)
                expected = "ladder" if "ladder" in tables.kinds() else "fan"
                self.assertEqual(found[0], expected)
                kinds.add(found[0])
        self.assertEqual(kinds, {"ladder", "fan"})

    def test_examples(self):
        self.assertEqual(find_fault(Board(orders.LADDER)), ("ladder", (0, 1, 2, 3, 4)))
        kind, places = find_fault(Board.fan(3))
        self.assertEqual([kind, places[0], places[4], sorted(places[1:4])], ["fan", 0, 4, [1, 2, 3]])
        for board in (Board.chain(1), Board.chain(60), Board.cube(5), Board.fan(1), Board.fan(2)):
            self.assertIsNone(find_fault(board))
        self.assertEqual(find_fault(board=Board.fan(4))[0], "fan")

    def test_turned_boards(self):
        for rows in orders.board_rows()[::3]:
            board = Board(rows)
            found, other = find_fault(board), find_fault(board.turned())
            self.assertIs(found is None, other is None)
            if found is not None:
                self.assertEqual(found[0], other[0])

    def test_large_boards(self):
        for rows in large_rows():
            board, tables = Board(rows), orders.Tables(rows)
            before = time.perf_counter()
            found = find_fault(board)
            self.assertLess(time.perf_counter() - before, 3)
            self.assertIs(found is None, board.spreads())
            if found is not None:
                self.assertTrue(tables.is_fault(found))

    def test_many_small_boards(self):
        """Boards with up to 16 places, and the same turned: what they are is found by going through all places."""
        source = random.Random(115)
        counts = {"none": 0, "ladder": 0, "fan": 0}
        rows = [orders.family_rows(source, source.randint(2, 6), source.randint(2, 6)) for _ in range(260)]
        rows += [orders.product_rows(orders.fan_rows(source.randint(2, 4)), orders.chain_rows(2)) for _ in range(10)]
        rows += [orders.product_rows(orders.FAN, orders.fan_rows(2)), orders.fan_rows(5), SUBSPACES, SEMIMODULAR]
        for row in rows:
            if len(row) > 16:
                continue
            for turned in (row, ["".join(other[at] for other in row) for at in range(len(row))]):
                mixed = orders.mixed_rows(turned, source)
                tables, board = orders.Tables(mixed), Board(mixed)
                kinds = tables.kinds()
                self.assertIs(board.spreads(), tables.spreads())
                self.assertIs(board.spreads(), not kinds)
                found = find_fault(board)
                if kinds:
                    self.assertEqual(found[0], "ladder" if "ladder" in kinds else "fan")
                    self.assertTrue(tables.is_fault(found))
                else:
                    self.assertIsNone(found)
                counts[found[0] if found else "none"] += 1
        self.assertTrue(min(counts.values()) > 20, counts)

    def test_the_four_boards_and_how_long_they_take(self):
        chain, fan = Board.chain(60), Board.fan(58)
        product = Board.fan(3).product(Board.chain(12))
        self.assertIsNone(find_fault(chain))
        self.assertIs(chain.spreads(), True)
        for board in (product, fan):
            self.assertIs(board.spreads(), False)
            found = find_fault(board)
            self.assertEqual(found[0], "fan")
            self.assertTrue(orders.Tables(board.rows()).is_fault(found))
        for call, most in [(lambda: find_fault(chain), 0.5), (lambda: find_fault(product), 0.8),
                           (lambda: find_fault(fan), 0.8), (lambda: chain.spreads(), 0.4)]:
            self.assertLess(hundred_calls(call), most)

    def test_a_fan_only_if_there_is_no_ladder(self):
        both = orders.product_rows(orders.FAN, orders.LADDER)
        self.assertEqual(orders.Tables(both).kinds(), {"ladder", "fan"})
        self.assertEqual(find_fault(Board(both))[0], "ladder")
        self.assertEqual(find_fault(Board(orders.WIDE))[0], "ladder")
        self.assertEqual(find_fault(Board(orders.product_rows(orders.FAN, orders.FAN)))[0], "fan")

    def test_the_same_call_the_same_result(self):
        for rows in orders.board_rows()[::5]:
            board = Board(rows)
            self.assertEqual(find_fault(board), find_fault(board))
            self.assertEqual(board.rows(), rows)


class IsFault(unittest.TestCase):
    def setUp(self):
        rows = [*orders.board_rows(), orders.product_rows(orders.LADDER, orders.FAN)]
        self.pairs = [(Board(rows), orders.Tables(rows)) for rows in rows]
        self.faulty = [(board, tables, find_fault(board)) for board, tables in self.pairs if find_fault(board)]

    def same_verdict(self, board, tables, fault):
        kept = copy.deepcopy(fault)
        expected = tables.is_fault(fault)
        self.assertIs(is_fault(board, fault), expected, fault)
        self.assertEqual(fault, kept)
        return expected

    def test_all_places_of_small_boards(self):
        accepted = 0
        for board, tables in self.pairs:
            if len(board) == 5 or len(board) == 6:
                for places in itertools.product(range(len(board)), repeat=5):
                    for kind in ("ladder", "fan"):
                        accepted += self.same_verdict(board, tables, (kind, places))
        self.assertTrue(accepted > 20)

    def test_places_exchanged_and_repeated(self):
        for board, tables, (kind, places) in self.faulty:
            for other in itertools.permutations(places):
                self.same_verdict(board, tables, (kind, other))
            for at, more in itertools.product(range(5), repeat=2):
                self.same_verdict(board, tables, (kind, places[:at] + (places[more],) + places[at + 1:]))

    def test_other_places(self):
        for board, tables, (kind, places) in self.faulty:
            for at in range(5):
                for other in [*range(-2, len(board) + 2), True, False, None, "0", (0,), [0], 10 ** 29]:
                    self.same_verdict(board, tables, (kind, places[:at] + (other,) + places[at + 1:]))

    def test_other_kinds_and_forms(self):
        for board, tables, (kind, places) in self.faulty:
            for other in ("ladder", "fan", "Ladder", "", "none", None, 0, True, ["fan"], ("fan",), "ladder "):
                self.same_verdict(board, tables, (other, places))
            for fault in [None, (), (kind,), places, (kind, places, kind), [kind, places], (kind, list(places)),
                          (kind, places[:4]), (kind, (*places, 0)), (places, kind), (kind, *places), kind,
                          (kind, (places,)), ((kind, places),), (kind, None), (kind, ())]:
                self.assertIs(is_fault(board, fault), False)

    def test_true_and_false_are_no_places(self):
        board = Board(orders.LADDER)
        self.assertIs(is_fault(board, ("ladder", (0, 1, 2, 3, 4))), True)
        self.assertIs(is_fault(board, ("ladder", (False, 1, 2, 3, 4))), False)
        self.assertIs(is_fault(board, ("ladder", (0, True, 2, 3, 4))), False)

    def test_other_boards(self):
        source = random.Random(112)
        for board, tables, fault in self.faulty:
            other, more = source.choice(self.pairs)
            self.same_verdict(other, more, fault)

    def test_boards_that_spread_have_none(self):
        board = Board.cube(3)
        for places in itertools.permutations(range(8), 5):
            self.assertIs(is_fault(board, ("ladder", places)), False)
            self.assertIs(is_fault(board, ("fan", places)), False)

    def test_changed_and_nested_values(self):
        source = random.Random(113)
        for board, tables, fault in self.faulty:
            for _ in range(60):
                self.same_verdict(board, tables, questions.swapped(source, fault))
        board = Board.fan(3)
        for value in questions.nested_values(1500, seed=114):
            self.assertIs(is_fault(board, value), False)
            self.assertIs(is_fault(board, ("fan", value)), False)
            self.assertIs(is_fault(board, (value, (0, 1, 2, 3, 4))), value == "fan")
            self.assertIs(is_fault(board, ("fan", (0, 1, 2, 3, value))), value == 4 and type(value) is int)

    def test_by_keyword(self):
        self.assertIs(is_fault(fault=("fan", (0, 1, 2, 3, 4)), board=Board.fan(3)), True)


class Interface(unittest.TestCase):
    def test_all_are_defined_in_their_file(self):
        for name in ("find_fault", "is_fault"):
            self.assertEqual(getattr(module, name).__module__, "fivefault.faults")


if __name__ == "__main__":
    unittest.main()
