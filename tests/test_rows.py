"""[A6], what [A3] and [A4] say of it, and the second point of [A8]."""

import itertools
import random

from tests.anyvalues import any_values, nested
from tests.same import SameTest
from tests.samples import LINES, all_orders, drawn_orders, drawn_rows, slow_lets
from tieskept import rows
from tieskept.bounds import MAX_KEY
from tieskept.rows import cut, lets, row_error


def slow_row_error(n, value):
    if type(value) is not tuple or len(value) != n:
        return "form"
    for spot in range(n):
        if type(value[spot]) is not int or not -10 ** 12 <= value[spot] <= 10 ** 12:
            return ("key", spot)
    return None


def telling_keys(row):
    """Return keys to cut by: those of the row, between them, beyond them, and those at both ends."""
    near = {key + step for key in row for step in (-1, 0, 1)}
    between = {(low + high) // 2 for low in row for high in row}
    return sorted(key for key in near | between | {-MAX_KEY, 0, MAX_KEY} if abs(key) <= MAX_KEY)


class RowErrorTest(SameTest):
    def test_rows_of_two_to_24_lines_have_no_error(self):
        for n in LINES:
            for row in drawn_rows(n, 1):
                self.assertIsNone(row_error(n, row), (n, row))
            for spot in range(n):
                for key in (10 ** 12, -10 ** 12, 0):
                    row = (0,) * spot + (key,) + (0,) * (n - 1 - spot)
                    self.assertIsNone(row_error(n, row), (n, row))

    def test_tuples_of_more_or_fewer_items_have_no_form(self):
        for n in LINES:
            for many in (0, 1, n - 1, n + 1, 2 * n, 4000):
                if many != n:
                    self.assert_same(row_error(n, (0,) * many), "form", n, many)
                    self.assert_same(row_error(n, (None,) * many), "form", n, many)

    def test_what_is_no_tuple_has_no_form(self):
        for n in LINES:
            for value in ([0] * n, "0" * n, {k: 0 for k in range(n)}, [(0,) * n], [], n, True, None, 0):
                self.assert_same(row_error(n, value), "form", n, value)

    def test_keys_that_are_no_integers(self):
        for wrong in any_values():
            if type(wrong) is not int:
                for n in (2, 3, 24):
                    for spot in range(n):
                        row = (1,) * spot + (wrong,) + (1,) * (n - 1 - spot)
                        self.assert_same(row_error(n, row), ("key", spot), row)
                    self.assert_same(row_error(n, (wrong,) * n), ("key", 0), n, wrong)

    def test_bools_are_no_keys(self):
        self.assert_same(row_error(2, (True, False)), ("key", 0))
        self.assert_same(row_error(2, (0, False)), ("key", 1))
        self.assert_same(row_error(3, (1, 1, True)), ("key", 2))

    def test_keys_one_step_beyond(self):
        for n in LINES:
            for spot in range(n):
                for key in (10 ** 12 + 1, -10 ** 12 - 1, 10 ** 399, -10 ** 399):
                    row = (MAX_KEY,) * spot + (key,) + (-MAX_KEY,) * (n - 1 - spot)
                    self.assert_same(row_error(n, row), ("key", spot), row)

    def test_the_first_wrong_key_is_told(self):
        draw = random.Random(2)
        wrong = (None, True, False, "1", (), (1,), [1], {}, MAX_KEY + 1, -MAX_KEY - 1)
        for n in LINES:
            for row in drawn_rows(n, 3):
                spots = sorted(draw.sample(range(n), draw.randrange(1, n + 1)))
                row = tuple(draw.choice(wrong) if spot in spots else key for spot, key in enumerate(row))
                self.assert_same(row_error(n, row), ("key", spots[0]), n, row)

    def test_any_values(self):
        for n in LINES:
            for value in any_values():
                self.assert_same(row_error(n, value), slow_row_error(n, value), n, value)
                self.assert_same(row_error(n, (value,) * n), slow_row_error(n, (value,) * n), n, value)
        for depth in range(1, 20):
            for inner in ((0, 1), (0, 1, 2), (), 0):
                value = nested(inner, depth)
                for n in (2, 3):
                    self.assert_same(row_error(n, value), slow_row_error(n, value), n, value)
                    self.assert_same(row_error(n, (value,) * n), ("key", 0), n, value)


class LetsTest(SameTest):
    def test_all_orders_and_rows_of_few_lines(self):
        for n in (2, 3, 4):
            rows_of_n = list(itertools.product(range(min(n, 3)), repeat=n))
            for order in all_orders(n):
                for row in rows_of_n:
                    self.assert_same(lets(order, row), slow_lets(order, row), order, row)

    def test_drawn_orders_and_rows_to_24_lines(self):
        for n in LINES:
            for order in drawn_orders(n, 4):
                for row in drawn_rows(n, 5):
                    self.assert_same(lets(order, row), slow_lets(set(order), row), order, row)

    def test_equal_keys_are_in_order_and_one_step_is_not(self):
        for key in (-MAX_KEY, -1, 0, MAX_KEY - 1):
            self.assert_same(lets(((0, 1),), (key, key)), True)
            self.assert_same(lets(((0, 1),), (key, key + 1)), True)
            self.assert_same(lets(((0, 1),), (key + 1, key)), False)
            self.assert_same(lets((), (key + 1, key)), True)


class CutTest(SameTest):
    def test_by_keys_of_the_row_between_and_beyond_them(self):
        for n in LINES:
            for row in drawn_rows(n, 6):
                for key in telling_keys(row):
                    told = tuple(int(item > key) for item in row)
                    self.assert_same(cut(row, key), told, row, key)

    def test_by_keys_at_both_ends(self):
        for n in LINES:
            for row in drawn_rows(n, 7):
                self.assert_same(cut(row, MAX_KEY), (0,) * n, row)
                self.assert_same(cut(row, -MAX_KEY), tuple(0 if key == -MAX_KEY else 1 for key in row), row)

    def test_an_order_lets_a_row_exactly_if_it_lets_each_word_cut_of_it(self):
        for n in LINES:
            for order in drawn_orders(n, 8):
                for row in drawn_rows(n, 9):
                    words = [cut(row, key) for key in telling_keys(row)]
                    self.assert_same(lets(order, row), all(lets(order, word) for word in words), order, row)

    def test_a_lesser_key_makes_more_ones(self):
        for n in LINES:
            for row in drawn_rows(n, 10):
                keys = telling_keys(row)
                for less, more in zip(keys, keys[1:]):
                    for low, high in zip(cut(row, less), cut(row, more)):
                        self.assertLessEqual(high, low)


class CallsTest(SameTest):
    def test_calls_by_place_and_by_name(self):
        for value in [*any_values(), (1, 2), (1, True), [1, 2]]:
            self.assert_calls(row_error, n=2, value=value)
            self.assert_calls(row_error, n=2, value=(0, value))
        for order in ((), ((0, 1),), ((0, 2), (1, 2))):
            for row in ((5, 2, 7), (2, 5, 7), (1, 1, 1)):
                self.assert_calls(lets, order=order, row=row)
                self.assert_calls(cut, row=row, key=4)

    def test_the_functions_are_defined_in_their_file(self):
        self.assert_defined(rows, "row_error", "lets", "cut")
