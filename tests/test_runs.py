"""[B5] and [B6], and what [B7] says of them."""

import random

from tests.same import SameTest
from tests.samples import LINES, all_pairs, drawn_networks, drawn_rows, slow_run, sorter
from tieskept import runs
from tieskept.bounds import MAX_KEY, MAX_TIMES
from tieskept.networks import joined, mirrored
from tieskept.rows import cut
from tieskept.runs import came, exchanged, out, out_often, settled


def cases(seed, lines=LINES, most=40):
    """Yield networks and rows of all sorts: each network with some of the rows."""
    draw = random.Random(seed)
    for n in lines:
        rows = drawn_rows(n, seed)
        for network in drawn_networks(n, seed, most):
            for row in draw.sample(rows, 6):
                yield n, network, row


def long_cases(seed):
    """Yield networks of 1000 gates, and rows."""
    draw = random.Random(seed)
    for n in (2, 3, 10, 24):
        for network in (tuple(draw.choices(all_pairs(n), k=1000)), (all_pairs(n) * 1000)[:1000]):
            for row in drawn_rows(n, seed):
                yield n, network, row


def inversions(row):
    return sum(row[p] > row[q] for p, q in all_pairs(len(row)))


def slow_often(network, row):
    """The rows that lie on the lines behind 0, 1, 2, .. times, until a time that changes nothing."""
    found = [row]
    while slow_run(network, found[-1])[2]:
        found.append(slow_run(network, found[-1])[0])
    return found


class RunsTest(SameTest):
    def check(self, network, row):
        keys, places, spots = slow_run(network, row)
        self.assert_same(out(network, row), keys, network, row)
        self.assert_same(came(network, row), places, network, row)
        self.assert_same(exchanged(network, row), spots, network, row)

    def test_networks_and_rows_of_all_sorts(self):
        for n, network, row in cases(1):
            self.check(network, row)

    def test_1000_gates(self):
        for n, network, row in long_cases(2):
            self.check(network, row)

    def test_equal_keys_are_not_exchanged(self):
        for n in LINES:
            for key in (-MAX_KEY, 0, MAX_KEY):
                for network in drawn_networks(n, 3):
                    row = (key,) * n
                    self.assert_same(out(network, row), row)
                    self.assert_same(came(network, row), tuple(range(n)))
                    self.assert_same(exchanged(network, row), ())

    def test_keys_at_both_ends(self):
        for low, high in ((-MAX_KEY, MAX_KEY), (-MAX_KEY, 1 - MAX_KEY), (MAX_KEY - 1, MAX_KEY), (-1, 0)):
            self.assert_same(out(((0, 1),), (high, low)), (low, high))
            self.assert_same(came(((0, 1),), (high, low)), (1, 0))
            self.assert_same(exchanged(((0, 1),), (low, high)), ())
            self.assert_same(exchanged(((0, 1), (0, 1)), (high, low)), (0,))

    def test_no_gates(self):
        for n in LINES:
            for row in drawn_rows(n, 4):
                self.assert_same(out((), row), row)
                self.assert_same(came((), row), tuple(range(n)))
                self.assert_same(exchanged((), row), ())


class WhatHoldsTest(SameTest):
    def test_the_things_are_only_moved(self):
        for n, network, row in cases(5):
            places = came(network, row)
            self.assertEqual(sorted(places), list(range(n)))
            self.assert_same(out(network, row), tuple(row[place] for place in places))
            if not exchanged(network, row):
                self.assert_same(places, tuple(range(n)))

    def test_rows_that_ascend_stay(self):
        for n, network, row in cases(6):
            row = tuple(sorted(row))
            self.assert_same(out(network, row), row)
            self.assert_same(came(network, row), tuple(range(n)))
            self.assert_same(exchanged(network, row), ())

    def test_cuts_go_along(self):
        for n, network, row in cases(7):
            some_cut = set()
            for key in {*row, min(row) - 1, -MAX_KEY, MAX_KEY}:
                if abs(key) <= MAX_KEY:
                    self.assert_same(out(network, cut(row, key)), cut(out(network, row), key), network, row, key)
                    some_cut.update(exchanged(network, cut(row, key)))
            self.assert_same(exchanged(network, row), tuple(sorted(some_cut)), network, row)

    def test_a_gate_exchanges_on_the_word_cut_at_the_lesser_key(self):
        for n, network, row in cases(8, range(2, 12), 20):
            for spot in exchanged(network, row):
                i, j = network[spot]
                lesser = out(network[:spot], row)[j]
                self.assertLess(lesser, out(network[:spot], row)[i])
                self.assertIn(spot, exchanged(network, cut(row, lesser)))

    def test_near_gates_keep_equal_keys_in_order(self):
        draw = random.Random(9)
        for n in LINES:
            near = [(k, k + 1) for k in range(n - 1)]
            for row in drawn_rows(n, 9):
                network = tuple(draw.choices(near, k=draw.randrange(100)))
                places = came(network, row)
                for p, q in all_pairs(n):
                    if row[p] == row[q]:
                        self.assertLess(places.index(p), places.index(q), (network, row))

    def test_sorters_sort_and_keep_equal_keys_in_order(self):
        for n in LINES:
            for row in drawn_rows(n, 10):
                self.assert_same(out(sorter(n), row), tuple(sorted(row)))
                self.assert_same(came(sorter(n), row), tuple(sorted(range(n), key=lambda p: row[p])))

    def test_joined_networks_are_done_one_behind_another(self):
        for n, network, row in cases(11):
            for other in (((0, n - 1),), sorter(n), network[:1000 - len(network)]):
                both = joined(n, network, other, 0)
                self.assert_same(out(both, row), out(other, out(network, row)), network, other, row)

    def test_mirrored_networks_do_the_same_turned_about(self):
        for n, network, row in cases(12):
            turned = tuple(-key for key in row[::-1])
            other = mirrored(n, network)
            self.assert_same(out(other, turned), tuple(-key for key in out(network, row)[::-1]), network, row)
            self.assert_same(exchanged(other, turned), exchanged(network, row), network, row)


class OftenTest(SameTest):
    def check(self, network, row):
        told = slow_often(network, row)
        least = len(told) - 1
        self.assert_same(settled(network, row), least, network, row)
        for times in {*range(min(least, 4)), *range(max(0, least - 2), least + 3), 1000, 10 ** 30 - 1, 10 ** 30}:
            self.assert_same(out_often(network, row, times), told[min(times, least)], network, row, times)

    def test_networks_and_rows_of_all_sorts(self):
        for n, network, row in cases(13):
            self.check(network, row)

    def test_1000_gates(self):
        for n, network, row in long_cases(14):
            self.check(network, row)

    def test_one_pass_on_24_lines_needs_23_times(self):
        for n in LINES:
            pass_on = tuple((k, k + 1) for k in range(n - 1))
            row = tuple(range(n, 0, -1))
            self.assert_same(settled(pass_on, row), n - 1)
            self.assert_same(settled(pass_on, tuple(range(n))), 0)
            for times in range(n + 2):
                done = min(times, n - 1)
                # Each time the greatest key that is left goes behind all others that are left.
                told = row[done:] + tuple(range(n - done + 1, n + 1))
                self.assert_same(out_often(pass_on, row, times), told, n, times)
            self.assert_same(out_often(pass_on, row, MAX_TIMES), tuple(range(1, n + 1)))

    def test_the_least_key_comes_ahead_by_one_line_each_time_or_at_once(self):
        for n in LINES:
            row = tuple(range(1, n)) + (0,)
            ahead = tuple((k, k + 1) for k in range(n - 1))
            self.assert_same(settled(ahead[::-1], row), 1)
            self.assert_same(settled(ahead, row), n - 1)
            self.assert_same(out_often(ahead, row, n - 2), (1, 0) + tuple(range(2, n)))

    def test_no_times_and_no_gates(self):
        for n, network, row in cases(15, (2, 7, 24)):
            self.assert_same(out_often(network, row, 0), row)
            self.assert_same(out_often((), row, 10 ** 30), row)
            self.assert_same(settled((), row), 0)
            self.assert_same(out_often(network, row, 1), out(network, row))

    def test_settled_is_the_least_number_and_not_above_all_pairs(self):
        for n, network, row in cases(16):
            least = settled(network, row)
            self.assertLessEqual(least, inversions(row))
            self.assertEqual(exchanged(network, out_often(network, row, least)), ())
            if least > 0:
                self.assertNotEqual(exchanged(network, out_often(network, row, least - 1)), ())

    def test_each_time_leaves_fewer_pairs_the_wrong_way_about(self):
        for n, network, row in cases(17, range(2, 12)):
            rows = [out_often(network, row, times) for times in range(settled(network, row) + 1)]
            for before, after in zip(rows, rows[1:]):
                self.assertLess(inversions(after), inversions(before))

    def test_some_times_and_some_more_are_both_together(self):
        for n, network, row in cases(18, (2, 3, 5, 9, 16, 24)):
            least = settled(network, row)
            for some in (0, 1, 2, least, 10 ** 29):
                for more in (0, 1, 3, least, 10 ** 29):
                    told = out_often(network, out_often(network, row, some), more)
                    self.assert_same(out_often(network, row, some + more), told, network, row, some, more)


class CallsTest(SameTest):
    def test_calls_by_place_and_by_name(self):
        for n, network, row in cases(19, (2, 5, 24)):
            for function in (out, came, exchanged, settled):
                self.assert_calls(function, network=network, row=row)
            for times in (0, 1, 10 ** 30):
                self.assert_calls(out_often, network=network, row=row, times=times)

    def test_the_functions_are_defined_in_their_file(self):
        self.assert_defined(runs, "out", "came", "exchanged", "out_often", "settled")
