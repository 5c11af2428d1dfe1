"""[7], [8] and fivefault/boards.py: boards, lows and ups, readings and values."""

import copy
import itertools
import random
import time
import unittest

from fivefault import boards as module
from fivefault.boards import Board
from fivefault.errors import InvalidBoard, InvalidLetter, InvalidPlace, InvalidReading, InvalidTerm, TooManyPlaces
from tests import orders, samples

WRONG_PLACES = [-1, -2, -60, 60, 61, 10 ** 29, -10 ** 29, None, "0", "", "a", (), (0,), [0], True, False]


def wrong_places(many):
    return [many, many + 1, *[place for place in WRONG_PLACES if type(place) is not int or not 0 <= place < many]]


class Making(unittest.TestCase):
    def verdict(self, rows):
        """Whether rows are accepted, which must be so exactly if they are those of a board."""
        expected = orders.is_plain_board(rows)
        kept = list(rows)
        try:
            found = Board(rows)
        except InvalidBoard:
            self.assertFalse(expected, rows)
        else:
            self.assertTrue(expected, rows)
            self.assertEqual(found.rows(), kept)
        self.assertEqual(list(rows), kept)
        return expected

    def test_boards_of_all_kinds(self):
        for rows in orders.board_rows():
            self.assertTrue(self.verdict(rows))
            self.assertEqual(Board(tuple(rows)).rows(), rows)

    def test_a_character_changed(self):
        accepted = 0
        for rows in orders.board_rows():
            if len(rows) <= 8:
                for x, y in itertools.product(range(len(rows)), repeat=2):
                    digit = "0" if rows[x][y] == "1" else "1"
                    accepted += self.verdict(rows[:x] + [rows[x][:y] + digit + rows[x][y + 1:]] + rows[x + 1:])
        self.assertTrue(accepted > 10)

    def test_a_character_changed_in_large_boards(self):
        source = random.Random(91)
        for rows in orders.board_rows():
            if len(rows) > 8:
                for _ in range(6):
                    x, y = source.randrange(len(rows)), source.randrange(len(rows))
                    digit = "0" if rows[x][y] == "1" else "1"
                    self.verdict(rows[:x] + [rows[x][:y] + digit + rows[x][y + 1:]] + rows[x + 1:])

    def test_all_rows_with_up_to_three_places(self):
        accepted = [0, 0, 0, 0]
        for many in (1, 2, 3):
            for digits in itertools.product("01", repeat=many * many):
                text = "".join(digits)
                accepted[many] += self.verdict([text[at * many:at * many + many] for at in range(many)])
        self.assertEqual(accepted, [0, 1, 2, 6])

    def test_reflexive_rows_with_four_places(self):
        for digits in itertools.product("01", repeat=12):
            rest = iter(digits)
            self.verdict(["".join("1" if x == y else next(rest) for y in range(4)) for x in range(4)])

    def test_random_orders(self):
        source = random.Random(92)
        accepted = 0
        for _ in range(300):
            many = source.randint(5, 12)
            sets = [frozenset(at for at in range(5) if source.random() < 0.5) for _ in range(many)]
            sets += [frozenset(), frozenset(range(5))]
            accepted += self.verdict(orders.rows_of(sorted(set(sets), key=sorted), lambda one, other: one <= other))
        self.assertTrue(20 < accepted < 270, accepted)

    def test_orders_without_a_low_or_an_up(self):
        self.verdict(["10", "01"])
        self.verdict(["101", "011", "001"])
        self.verdict(["111", "010", "001"])
        # Two places below two others: there are bounds, but no greatest and no least one.
        self.assertFalse(self.verdict(["111111", "010111", "001111", "000101", "000011", "000001"]))

    def test_numbers_of_rows(self):
        self.assertFalse(self.verdict([]))
        self.assertFalse(self.verdict(()))
        self.assertTrue(self.verdict(orders.chain_rows(60)))
        self.assertTrue(self.verdict(orders.fan_rows(58)))
        for many in (61, 62, 64, 100, 400):
            self.assertFalse(self.verdict(orders.chain_rows(many)))
        self.assertFalse(self.verdict(orders.cube_rows(6)))

    def test_lengths_and_characters(self):
        for rows in [[""], ["11"], ["1", "1"], ["11", "0"], ["11", "011"], ["110", "010"], ["1\n"], ["1 ", "01"], ["2"],
                     ["0"], ["1x", "01"], ["1l", "01"], ["+1", "01"], ["11", "-1"], ["1_", "01"], [" 1", "01"],
                     ["111", "0 1", "001"], ["111", "0x1", "001"], ["11\n", "011", "001"], ["", ""], ["11", ""]]:
            self.assertFalse(self.verdict(rows))

    def test_rows_may_be_changed_afterwards(self):
        rows = orders.chain_rows(3)
        board = Board(rows)
        rows[0] = "000"
        rows.append("x")
        self.assertEqual(board.rows(), orders.chain_rows(3))
        found = board.rows()
        found.clear()
        self.assertEqual(board.rows(), orders.chain_rows(3))
        self.assertIs(type(board.rows()), list)

    def test_most_places(self):
        self.assertEqual(Board.MAX_PLACES, 60)
        self.assertEqual(Board.chain(1).MAX_PLACES, 60)

    def test_how_long_it_takes(self):
        before = time.perf_counter()
        for _ in range(5):
            for rows in (orders.chain_rows(60), orders.fan_rows(58)):
                board = Board(rows)
                board.spreads()
                board.turned()
        self.assertLess(time.perf_counter() - before, 5)


class Kinds(unittest.TestCase):
    def test_chain(self):
        for size in range(1, 61):
            self.assertEqual(Board.chain(size).rows(), orders.chain_rows(size))
        for size in (0, -1, -60, 61, 62, 1000, 10 ** 29, -10 ** 29):
            self.assertRaises(InvalidBoard, Board.chain, size)

    def test_cube(self):
        for size in range(6):
            self.assertEqual(Board.cube(size).rows(), orders.cube_rows(size))
            self.assertEqual(len(Board.cube(size)), 2 ** size)
        for size in (-1, -5, 6, 7, 60, 10 ** 29, -10 ** 29):
            self.assertRaises(InvalidBoard, Board.cube, size)

    def test_fan(self):
        for size in range(1, 59):
            self.assertEqual(Board.fan(size).rows(), orders.fan_rows(size))
        for size in (0, -1, -58, 59, 60, 61, 10 ** 29, -10 ** 29):
            self.assertRaises(InvalidBoard, Board.fan, size)

    def test_by_keyword(self):
        found = [Board.chain(size=2), Board.cube(size=1), Board.fan(size=1), Board(rows=["11", "01"])]
        self.assertEqual([len(board) for board in found], [2, 2, 3, 2])


class Places(unittest.TestCase):
    def test_bottom_top_and_below(self):
        for rows in orders.board_rows():
            board = Board(rows)
            places = range(len(rows))
            self.assertEqual([board.bottom], [x for x in places if "0" not in rows[x]])
            self.assertEqual([board.top], [y for y in places if all(row[y] == "1" for row in rows)])
            for one, other in itertools.product(places, repeat=2):
                self.assertIs(board.is_below(one, other), rows[one][other] == "1")
        self.assertIs(Board.chain(3).is_below(other=2, one=0), True)

    def test_low_and_up_of_none_to_five_places(self):
        source = random.Random(93)
        for rows in orders.board_rows():
            board = Board(rows)
            self.assertEqual([board.low(), board.up()], [board.top, board.bottom])
            for many in range(1, 6):
                for _ in range(6):
                    places = [source.randrange(len(rows)) for _ in range(many)]
                    self.assertEqual(board.low(*places), orders.plain_low(rows, places))
                    self.assertEqual(board.up(*places), orders.plain_up(rows, places))

    def test_each_two_places(self):
        for rows in orders.small_boards():
            board = Board(rows)
            for pair in itertools.product(range(len(rows)), repeat=2):
                self.assertEqual(board.low(*pair), orders.plain_low(rows, pair))
                self.assertEqual(board.up(*pair), orders.plain_up(rows, pair))

    def first_wrong(self, call, places, expected):
        with self.assertRaises(InvalidPlace) as caught:
            call(*places)
        self.assertEqual(caught.exception.place, expected)
        self.assertIs(type(caught.exception.place), type(expected))

    def test_first_wrong_place(self):
        for board in (Board.chain(1), Board.fan(3), Board.chain(60)):
            for wrong in wrong_places(len(board)):
                for call in (board.low, board.up):
                    for places in ([wrong], [wrong, 0], [0, wrong], [0, 0, wrong, -9], [0, 0, 0, 0, wrong],
                                   [wrong, "x", None]):
                        self.first_wrong(call, places, wrong)
                self.first_wrong(board.is_below, [wrong, 0], wrong)
                self.first_wrong(board.is_below, [0, wrong], wrong)
                self.first_wrong(board.is_below, [wrong, "x"], wrong)
                self.first_wrong(board.is_below, ["x", wrong], "x")

    def test_places_that_follow_a_decided_bound_are_checked_too(self):
        board = Board.chain(3)
        self.first_wrong(board.low, [0, 3], 3)
        self.first_wrong(board.up, [2, -1], -1)


class Values(unittest.TestCase):
    def test_value_and_keeps(self):
        source = random.Random(94)
        terms = samples.random_terms(120, seed=95) + [samples.tower(9), samples.bushy(9, 600), samples.row(600)]
        terms += samples.LETTERS + [("&", "a", "a"), ("|", "a", "b", "c", "d")]
        for rows in orders.board_rows():
            board, tables = Board(rows), orders.Tables(rows)
            for _ in range(12):
                reading = {letter: source.randrange(len(rows)) for letter in samples.LETTERS}
                kept = dict(reading)
                left, right = source.choice(terms), source.choice(terms)
                self.assertEqual(board.value(left, reading), tables.value(left, reading))
                self.assertIs(board.keeps(left, right, reading), tables.keeps(left, right, reading))
                self.assertEqual(reading, kept)

    def test_further_letters(self):
        board = Board.chain(3)
        for more in ({"b": 99}, {"b": None}, {"x": 0}, {"z": "no", "": 5}, {"b": 1, "c": 2}):
            self.assertEqual(board.value("a", {"a": 1, **more}), 1)
            self.assertIs(board.keeps("a", ("&", "a", "a"), {"a": 1, **more}), True)

    def test_all_letters_count_even_where_they_decide_nothing(self):
        board = Board.chain(3)
        with self.assertRaises(InvalidReading) as caught:
            board.value(("&", "a", "b"), {"a": 0})
        self.assertEqual(caught.exception.letter, "b")

    def first_letter(self, call, expected):
        with self.assertRaises(InvalidReading) as caught:
            call()
        self.assertEqual(caught.exception.letter, expected)

    def test_letters_that_are_missing_or_have_no_place(self):
        for board in (Board.chain(2), Board.fan(4), Board.chain(60)):
            for wrong in [*wrong_places(len(board)), "gone"]:
                def reading(*letters):
                    found = {letter: wrong for letter in letters}
                    return {**{letter: 0 for letter in samples.LETTERS if letter not in letters},
                            **({} if wrong == "gone" else found)}

                term = ("|", "h", ("&", "c", "b"), "c")
                self.first_letter(lambda: board.value(term, reading("b")), "b")
                self.first_letter(lambda: board.value(term, reading("c", "h")), "c")
                self.first_letter(lambda: board.value(term, reading("h", "a")), "h")
                self.assertEqual(board.value(term, reading("a", "d", "g")), 0)
                self.first_letter(lambda: board.keeps("h", "b", reading("b", "h")), "b")
                self.first_letter(lambda: board.keeps("b", "h", reading("b", "h")), "b")
                self.first_letter(lambda: board.keeps("b", term, reading("h", "c")), "c")
                self.first_letter(lambda: board.keeps(samples.bushy(9, 600), "a", reading("a", "h")), "a")

    def test_an_empty_reading(self):
        for term in samples.terms()[::17]:
            expected = min(part for part in samples.plain_walk(term) if isinstance(part, str))
            self.first_letter(lambda: Board.chain(2).value(term, {}), expected)
            self.first_letter(lambda: Board.chain(2).keeps(term, "a", {}), "a")

    def test_what_is_no_long_term_comes_first(self):
        board = Board.chain(2)
        for value in samples.no_long_terms():
            for reading in ({}, {"a": 0}, {"a": 9}):
                self.assertRaises(InvalidTerm, board.value, value, reading)
                self.assertRaises(InvalidTerm, board.keeps, value, "a", reading)
                self.assertRaises(InvalidTerm, board.keeps, "a", value, reading)

    def test_by_keyword(self):
        board = Board.chain(2)
        self.assertEqual(board.value(reading={"a": 1}, term="a"), 1)
        self.assertIs(board.keeps(right="a", left="b", reading={"a": 1, "b": 0}), True)

    def test_readings_that_keep_and_break(self):
        board = Board.fan(3)
        reading = {"a": 1, "b": 2, "c": 3}
        left, right = ("&", "a", ("|", "b", "c")), ("|", ("&", "a", "b"), ("&", "a", "c"))
        self.assertEqual([board.value(left, reading), board.value(right, reading)], [1, 0])
        self.assertEqual([board.keeps(left, right, reading), board.keeps(right, left, reading)], [False, True])


class Readings(unittest.TestCase):
    def test_all_readings_in_order(self):
        for rows in orders.small_boards()[::4]:
            board = Board(rows)
            for names in ((), ("a",), ("h",), ("a", "b"), ("b", "a"), ("c", "a", "h")):
                expected = [dict(zip(names, places))
                            for places in itertools.product(range(len(rows)), repeat=len(names))]
                self.assertEqual(list(board.readings(*names)), expected)

    def test_examples(self):
        board = Board.chain(2)
        self.assertEqual(list(board.readings()), [{}])
        self.assertEqual(list(board.readings("b", "a")),
                         [{"b": 0, "a": 0}, {"b": 0, "a": 1}, {"b": 1, "a": 0}, {"b": 1, "a": 1}])

    def test_the_first_ones_come_at_once(self):
        board = Board.chain(60)
        before = time.perf_counter()
        found = list(itertools.islice(board.readings(*"hgfedcba"), 3601))
        self.assertLess(time.perf_counter() - before, 2)
        self.assertEqual(found[0], {letter: 0 for letter in "abcdefgh"})
        self.assertEqual([found[59]["a"], found[60]["a"], found[60]["b"]], [59, 0, 1])
        self.assertEqual([found[3600]["c"], found[3600]["b"], found[3600]["a"]], [1, 0, 0])

    def test_each_reading_is_a_new_dict(self):
        found = Board.chain(2).readings("a", "b")
        first = next(found)
        first.clear()
        self.assertEqual(next(found), {"a": 0, "b": 1})
        self.assertEqual(first, {})

    def test_errors_when_the_first_is_asked_for(self):
        board = Board.chain(60)
        for names, expected in [(("i",), "i"), (("a", "a"), "a"), (("a", "b", "a"), "a"), (("x", "a", "a"), "x"),
                                (("a", "b", "b", "y"), "b"), (("",), ""), (("ab",), "ab"), (("a", "A"), "A"),
                                (("a", "b", "c", "d", "e", "f", "g", "h", "a"), "a"), (("z", "z"), "z")]:
            found = board.readings(*names)
            with self.assertRaises(InvalidLetter) as caught:
                next(found)
            self.assertEqual(caught.exception.letter, expected)


class WholeBoards(unittest.TestCase):
    def test_spreads(self):
        both = set()
        for rows in orders.board_rows():
            expected = orders.Tables(rows).spreads()
            both.add(expected)
            self.assertIs(Board(rows).spreads(), expected)
        self.assertEqual(both, {True, False})
        self.assertEqual([Board.fan(size).spreads() for size in (1, 2, 3, 58)], [True, True, False, False])
        self.assertIs(Board.chain(60).spreads(), True)
        self.assertIs(Board.cube(5).spreads(), True)

    def test_turned(self):
        for rows in orders.board_rows():
            board = Board(rows)
            turned = board.turned()
            self.assertIs(type(turned), Board)
            self.assertEqual(turned.rows(), ["".join(row[at] for row in rows) for at in range(len(rows))])
            self.assertEqual(turned.turned(), board)
            self.assertEqual([turned.bottom, turned.top], [board.top, board.bottom])
            self.assertIs(turned.spreads(), board.spreads())
            self.assertEqual(board.rows(), rows)

    def test_product(self):
        small = [rows for rows in orders.board_rows() if len(rows) <= 8][::3]
        for one, other in itertools.product(small, repeat=2):
            if len(one) * len(other) <= 60:
                found = Board(one).product(Board(other))
                self.assertEqual(found.rows(), orders.product_rows(one, other))
                self.assertIs(found.spreads(), Board(one).spreads() and Board(other).spreads())
            else:
                self.assertRaises(TooManyPlaces, Board(one).product, Board(other))

    def test_product_at_the_bound(self):
        for one, other in [(1, 60), (60, 1), (2, 30), (6, 10), (10, 6), (5, 12), (7, 8)]:
            found = Board.chain(one).product(Board.chain(other))
            self.assertEqual(len(found), one * other)
        for one, other in [(60, 2), (2, 31), (61 // 2 + 1, 2), (8, 8), (60, 60), (4, 16)]:
            with self.assertRaises(TooManyPlaces) as caught:
                Board.chain(one).product(other=Board.chain(other))
            self.assertEqual(caught.exception.limit, 60)

    def test_the_order_of_a_product(self):
        found = Board.chain(2).product(Board.fan(3))
        for x, y, u, v in itertools.product(range(2), range(5), range(2), range(5)):
            expected = x <= u and Board.fan(3).is_below(y, v)
            self.assertIs(found.is_below(x * 5 + y, u * 5 + v), expected)

    def test_equality(self):
        found = [Board(rows) for rows in orders.board_rows()]
        for one, other in itertools.product(found[::3], found[::4]):
            self.assertIs(one == other, one.rows() == other.rows())
            self.assertIs(one != other, one.rows() != other.rows())
        self.assertEqual(Board.chain(2), Board.cube(1))
        self.assertEqual(Board.chain(3), Board.fan(1))
        for value in (["1"], ("1",), "1", 1, True, None, Board, [Board.chain(1)], "Board(1 places)"):
            self.assertIs(Board.chain(1) == value, False)
            self.assertIs(Board.chain(1) != value, True)

    def test_len_and_repr(self):
        for size in (1, 2, 5, 60):
            self.assertEqual(len(Board.chain(size)), size)
            self.assertEqual(repr(Board.chain(size)), f"Board({size} places)")
        self.assertEqual(repr(Board.fan(3)), "Board(5 places)")

    def test_nothing_changes_a_board(self):
        board = Board(orders.LADDER)
        kept = copy.deepcopy(board)
        board.turned()
        board.product(Board.chain(3))
        list(board.readings("a", "b"))
        board.spreads()
        self.assertEqual(board, kept)
        self.assertEqual(board.rows(), orders.LADDER)


class Interface(unittest.TestCase):
    def test_methods_stand_in_the_class_itself(self):
        self.assertEqual(Board.__module__, module.__name__)
        for name in ("MAX_PLACES", "chain", "cube", "fan", "rows", "bottom", "top", "is_below", "low", "up", "value",
                     "keeps", "spreads", "turned", "product", "readings", "__init__", "__eq__", "__len__", "__repr__"):
            self.assertIn(name, vars(Board))
        self.assertIs(type(vars(Board)["chain"]), classmethod)
        self.assertIs(type(vars(Board)["cube"]), classmethod)
        self.assertIs(type(vars(Board)["fan"]), staticmethod)
        self.assertIs(type(vars(Board)["bottom"]), property)
        self.assertIs(type(vars(Board)["top"]), property)


if __name__ == "__main__":
    unittest.main()
