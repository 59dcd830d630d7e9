"""[A5], what [A3] and [A4] say of it, and the first point of [A8]."""

import copy
import itertools
import random
import unittest

from tests.anyvalues import any_values, nested
from tests.same import SameTest
from tests.samples import LINES, all_orders, all_pairs, drawn_orders, slow_closed
from tieskept import orders
from tieskept.orders import closed, least_order, order_error, runs_order


def let_rows(n, rows):
    """Return for each pair which of the rows it lets, as the bits of a number."""
    return {
        (p, q): sum(1 << k for k, row in enumerate(rows) if row[p] <= row[q])
        for p, q in all_pairs(n)
    }


def slow_order_error(n, value):
    """What order_error tells, by how Python writes the items: so no bool is an integer, no list a tuple."""
    if repr(value)[0] != "(" or isinstance(value, str):
        return "form"
    numbers = {repr(pair): number for number, pair in enumerate(all_pairs(n))}
    told = [numbers.get(repr(item)) for item in value]
    if None in told:
        return ("pair", told.index(None))
    falls = [spot for spot in range(1, len(told)) if told[spot - 1] >= told[spot]]
    return ("order", falls[0]) if falls else None


def slow_least(order):
    pairs = set(slow_closed(order))
    return tuple(sorted(
        (p, q) for p, q in pairs if not any((p, r) in pairs and (r, q) in pairs for r in range(p + 1, q))
    ))


def compositions(n):
    """Yield all tuples of integers above 0 that make n together."""
    if n == 0:
        yield ()
    for first in range(1, n + 1):
        for rest in compositions(n - first):
            yield (first,) + rest


def slow_runs_order(sizes):
    run_of = [run for run, size in enumerate(sizes) for _ in range(size)]
    return tuple((p, p + 1) for p in range(len(run_of) - 1) if run_of[p] == run_of[p + 1])


class OrderErrorTest(SameTest):
    def test_orders_of_all_sorts_have_no_error(self):
        for n in LINES:
            for order in drawn_orders(n, 1):
                self.assertIsNone(order_error(n, order), (n, order))
        for n in (2, 3, 4):
            for order in all_orders(n):
                self.assertIsNone(order_error(n, order), (n, order))

    def test_what_is_no_tuple_has_no_form(self):
        values = [value for value in any_values() if not isinstance(value, tuple)]
        values += [[], [(0, 1)], [(0, 1), (0, 1)], {(0, 1): True}, "()", "((0, 1),)", True, 0, None, [()]]
        for n in (2, 4, 24):
            for value in values:
                self.assert_same(order_error(n, value), "form", n, value)

    def test_items_that_are_no_tuples_of_two(self):
        for item in [*any_values(), (1,), (0, 1, 2), [0, 1], [0, 2], "01", {0: 1, 1: 2}, ((0, 1), (0, 1)), ()]:
            if item != (0, 1) or not isinstance(item, tuple):
                self.assert_same(order_error(4, (item,)), ("pair", 0), item)
                self.assert_same(order_error(4, ((0, 1), (1, 3), item)), ("pair", 2), item)
                self.assert_same(order_error(4, (item, item)), ("pair", 0), item)

    def test_pairs_of_what_are_no_integers(self):
        for wrong in any_values():
            if type(wrong) is not int:
                for item in ((wrong, 1), (0, wrong), (wrong, 3), (wrong, wrong)):
                    self.assert_same(order_error(4, (item,)), ("pair", 0), item)
        for item in ((False, 1), (0, True), (False, True), (True, 2), (1, True), (False, 2)):
            for n in (3, 24):
                self.assert_same(order_error(n, ((0, 1), item)), ("pair", 1), n, item)

    def test_pairs_out_of_the_lines(self):
        for n in LINES:
            wrong = [(-1, 0), (-1, 1), (-2, -1), (0, 0), (1, 1), (n - 1, n - 1), (1, 0), (n - 1, 0), (n - 1, n - 2)]
            wrong += [(0, n), (n - 1, n), (0, n + 1), (n, n + 1), (n, 0), (0, -1), (0, 10 ** 399), (-10 ** 399, 1)]
            for item in wrong:
                self.assert_same(order_error(n, (item,)), ("pair", 0), n, item)
                self.assert_same(order_error(n, ((0, 1), item, (0, 1))), ("pair", 1), n, item)

    def test_the_first_wrong_item_is_told_ahead_of_the_order(self):
        self.assert_same(order_error(4, ((0, 1), (0, 1), (2, 2), (0, 9))), ("pair", 2))
        self.assert_same(order_error(4, ((2, 3), (1, 2), (0, 1), None)), ("pair", 3))
        self.assert_same(order_error(4, ((2, 3), (1, 2), [0, 1], None)), ("pair", 2))
        self.assert_same(order_error(4, (None, (2, 3), (1, 2))), ("pair", 0))
        self.assert_same(order_error(24, all_pairs(24) + ((0, 24),)), ("pair", 276))
        self.assert_same(order_error(24, all_pairs(24)[::-1] + ((0, True),)), ("pair", 276))
        self.assert_same(order_error(24, ((0, 1),) * 3999 + ((1, 0),)), ("pair", 3999))

    def test_pairs_out_of_order(self):
        self.assert_same(order_error(4, ((0, 2), (0, 1))), ("order", 1))
        self.assert_same(order_error(4, ((0, 1), (1, 3), (1, 2))), ("order", 2))
        self.assert_same(order_error(4, ((0, 3), (1, 2), (1, 2), (0, 3))), ("order", 2))
        self.assert_same(order_error(4, ((2, 3), (0, 1), (0, 2))), ("order", 1))
        self.assert_same(order_error(4, ((0, 1), (2, 3), (1, 2), (2, 3))), ("order", 2))
        self.assert_same(order_error(24, ((0, 1),) * 4000), ("order", 1))
        self.assert_same(order_error(24, all_pairs(24) + ((22, 23),)), ("order", 276))

    def test_doubled_and_exchanged_pairs(self):
        for n in LINES:
            for order in drawn_orders(n, 2):
                for spot in range(1, len(order)):
                    doubled = order[:spot] + order[spot - 1:]
                    self.assert_same(order_error(n, doubled), ("order", spot), n, doubled)
                    turned = order[:spot - 1] + (order[spot], order[spot - 1]) + order[spot + 1:]
                    self.assert_same(order_error(n, turned), ("order", spot), n, turned)

    def test_values_nested_within_one_another(self):
        for depth in range(1, 20):
            for inner in ((0, 1), ((0, 1),), (), [], 0, True):
                value = nested(inner, depth)
                self.assert_same(order_error(4, value), slow_order_error(4, value), value)
                self.assert_same(order_error(4, ((0, 1), value)), slow_order_error(4, ((0, 1), value)), value)
        self.assert_same(order_error(4, (((0, 1),),)), ("pair", 0))
        self.assert_same(order_error(4, (((0, 1), (1, 2)),)), ("pair", 0))
        self.assert_same(order_error(4, (((0, 1), 2),)), ("pair", 0))

    def test_any_values_and_drawn_ones(self):
        draw = random.Random(5)
        wrong = [None, (1, 0), (0, 0), [0, 1], (0, True), (-1, 1), (0,), (0, 1, 2), "01", ((0, 1),), (0, 30)]
        for n in LINES:
            for value in any_values():
                self.assert_same(order_error(n, value), slow_order_error(n, value), n, value)
            for order in drawn_orders(n, 3):
                for changes in range(1, 5):
                    value = list(order)
                    for _ in range(changes):
                        item = draw.choice([draw.choice(wrong), draw.choice(all_pairs(n)), (draw.randrange(n), n)])
                        value.insert(draw.randrange(len(value) + 1), item)
                    value = tuple(value)
                    self.assert_same(order_error(n, value), slow_order_error(n, value), n, value)

    def test_lines_decide_which_pairs_are_right(self):
        for n in LINES:
            for most in LINES:
                told = None if most <= n else ("pair", 0)
                self.assert_same(order_error(n, ((most - 2, most - 1),)), told, n, most)


class ClosedAndLeastTest(SameTest):
    def test_all_orders_of_few_lines_by_the_rows_that_they_let(self):
        for n in (2, 3, 4, 5):
            let_by = let_rows(n, list(itertools.product(range(n), repeat=n)))
            alike = {}
            for order in all_orders(n):
                let = -1
                for pair in order:
                    let &= let_by[pair]
                alike.setdefault(let, []).append(order)
            for group in alike.values():
                # all_orders tells the fewest pairs first.
                least, most = group[0], group[-1]
                for order in group:
                    self.assertLessEqual(set(least), set(order))
                    self.assertLessEqual(set(order), set(most))
                    self.assert_same(closed(n, order), most, n, order)
                    self.assert_same(least_order(n, order), least, n, order)

    def test_drawn_orders_to_24_lines(self):
        for n in LINES:
            for order in drawn_orders(n, 4) + drawn_orders(n, 5):
                self.assert_same(closed(n, order), slow_closed(order), n, order)
                self.assert_same(least_order(n, order), slow_least(order), n, order)

    def test_both_of_both_once_more(self):
        for n in LINES:
            for order in drawn_orders(n, 6):
                most, least = closed(n, order), least_order(n, order)
                self.assert_same(closed(n, most), most, n, order)
                self.assert_same(closed(n, least), most, n, order)
                self.assert_same(least_order(n, most), least, n, order)
                self.assert_same(least_order(n, least), least, n, order)
                self.assertLessEqual(set(least), set(order))
                self.assertLessEqual(set(order), set(most))
                self.assertIsNone(order_error(n, most))
                self.assertIsNone(order_error(n, least))

    def test_each_pair_of_the_least_order_is_needed(self):
        for n in LINES:
            for order in drawn_orders(n, 7):
                least = least_order(n, order)
                for spot in range(len(least)):
                    fewer = least[:spot] + least[spot + 1:]
                    self.assertNotIn(least[spot], closed(n, fewer), (n, order))

    def test_chains_and_what_leads_nowhere(self):
        for n in LINES:
            chain = tuple((p, p + 1) for p in range(n - 1))
            self.assert_same(closed(n, chain), all_pairs(n))
            self.assert_same(least_order(n, all_pairs(n)), chain)
            self.assert_same(closed(n, ()), ())
            self.assert_same(least_order(n, ()), ())
            self.assert_same(closed(n, ((0, n - 1),)), ((0, n - 1),))
            self.assert_same(least_order(n, ((0, n - 1),)), ((0, n - 1),))
        self.assert_same(closed(4, ((0, 2), (1, 2), (1, 3))), ((0, 2), (1, 2), (1, 3)))
        self.assert_same(closed(5, ((0, 2), (1, 2), (2, 4))), ((0, 2), (0, 4), (1, 2), (1, 4), (2, 4)))
        self.assert_same(least_order(4, ((0, 1), (0, 2), (0, 3), (1, 3), (2, 3))), ((0, 1), (0, 2), (1, 3), (2, 3)))


class RunsOrderTest(SameTest):
    def test_all_sizes_of_two_to_eleven_lines(self):
        for n in range(2, 12):
            for sizes in compositions(n):
                self.assert_same(runs_order(sizes), slow_runs_order(sizes), sizes)

    def test_one_run_and_runs_of_one_line(self):
        for n in LINES:
            self.assert_same(runs_order((n,)), tuple((p, p + 1) for p in range(n - 1)))
            self.assert_same(runs_order((1,) * n), ())
            if n > 2:
                self.assert_same(runs_order((1, n - 1)), tuple((p, p + 1) for p in range(1, n - 1)))
                self.assert_same(runs_order((n - 1, 1)), tuple((p, p + 1) for p in range(n - 2)))

    def test_drawn_sizes_to_24_lines(self):
        draw = random.Random(8)
        for n in LINES:
            for many in range(1, n + 1):
                starts = [0, *sorted(draw.sample(range(1, n), many - 1)), n]
                sizes = tuple(end - start for start, end in zip(starts, starts[1:]))
                order = runs_order(sizes)
                self.assert_same(order, slow_runs_order(sizes), sizes)
                self.assertIsNone(order_error(n, order))
                self.assert_same(least_order(n, order), order, sizes)
                self.assertEqual(len(closed(n, order)), sum(size * (size - 1) // 2 for size in sizes))


class CallsTest(SameTest):
    def test_calls_by_place_and_by_name(self):
        order = ((0, 1), (1, 2), (1, 3))
        self.assert_same(order_error(n=4, value=order), None)
        self.assert_same(order_error(value=((0, 4),), n=4), ("pair", 0))
        self.assert_same(order_error(4, value=[]), "form")
        self.assert_same(closed(n=4, order=order), closed(4, order))
        self.assert_same(closed(order=order, n=4), ((0, 1), (0, 2), (0, 3), (1, 2), (1, 3)))
        self.assert_same(least_order(n=4, order=closed(4, order)), order)
        self.assert_same(least_order(order=order, n=4), order)
        self.assert_same(runs_order(sizes=(2, 1, 2)), ((0, 1), (3, 4)))

    def test_what_is_handed_in_stays_as_it_was(self):
        for value in any_values():
            for handed in (value, (value,), ((0, 1), value), [value]):
                kept = copy.deepcopy(handed)
                first = order_error(4, handed)
                self.assert_same(handed, kept)
                self.assert_same(order_error(4, kept), first)

    def test_equal_calls_get_equal_results(self):
        for n in (2, 5, 24):
            for order in drawn_orders(n, 9):
                for function in (closed, least_order):
                    kept = copy.deepcopy(order)
                    first = function(n, order)
                    self.assert_same(function(n, tuple(list(order))), first)
                    self.assert_same(order, kept)
                    self.assert_same(function(n, order), first)

    def test_the_functions_are_defined_in_their_file(self):
        for name in ("order_error", "closed", "least_order", "runs_order"):
            self.assertEqual(getattr(orders, name).__module__, "tieskept.orders")


if __name__ == "__main__":
    unittest.main()
