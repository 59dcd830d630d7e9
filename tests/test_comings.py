"""[F4], and what [F7] and [F8] say of it."""

import itertools
import math
import random
import time

from tests.same import SameTest, answer
from tests.samples import (
    LINES, WORDY, all_networks, all_orders, all_pairs, drawn_networks, kept_networks, slow_ahead, slow_keeps_all,
    slow_lets, slow_run, sorter,
)
from tieskept import comings
from tieskept.comings import ahead, can_come, come_count
from tieskept.images import keeps_all
from tieskept.live import sure


def slow_comings(n, network):
    """All rearrangements of 0 to n - 1 that come out, found by letting all come in."""
    return {slow_run(network, row)[0] for row in itertools.permutations(range(n))}


class ComingsCase(SameTest):
    def assert_comes(self, n, network, row):
        value = can_come(n, network, row)
        self.assertEqual((type(value), sorted(value)), (tuple, list(range(n))), (n, network, row))
        self.assert_same(slow_run(network, value)[0], row, n, network, value)

    def check_all(self, n, network):
        """Look at all rearrangements."""
        told = slow_comings(n, network)
        self.assert_same(come_count(n, network), len(told), n, network)
        pairs = [(a, b) for a, b in all_pairs(n) if all(row[a] < row[b] for row in told)]
        self.assert_same(ahead(n, network), tuple(pairs), n, network)
        for row in itertools.permutations(range(n)):
            if row in told:
                self.assert_comes(n, network, row)
            else:
                self.assert_same(can_come(n, network, row), None, n, network, row)

    def assert_unfit(self, n, network):
        self.assert_raises("Unfit()", ahead, n, network)
        self.assert_raises("Unfit()", can_come, n, network, tuple(range(n)))
        self.assert_raises("Unfit()", can_come, n, network, tuple(range(n - 1, -1, -1)))
        self.assert_raises("Unfit()", come_count, n, network)


class ComingsTest(ComingsCase):
    def test_all_networks_of_few_gates(self):
        for n, most in ((2, 4), (3, 5), (4, 3)):
            for network in all_networks(n, most):
                if slow_keeps_all(n, network):
                    self.check_all(n, network)
                else:
                    self.assert_unfit(n, network)

    def test_networks_of_five_lines(self):
        for network in kept_networks(5, 1):
            self.check_all(5, network)

    def test_six_lines(self):
        for network in kept_networks(6, 2, 12)[::2]:
            self.check_all(6, network)

    def test_networks_that_keep_no_ties(self):
        for n in LINES:
            for network in drawn_networks(n, 3):
                if not slow_keeps_all(n, network):
                    self.assert_unfit(n, network)
        for n in range(3, 25):
            self.assert_unfit(n, ((0, n - 1),))
            self.assert_unfit(n, ((0, 1),) * 998 + ((n - 3, n - 1), (0, 1)))

    def test_ahead_of_networks_of_all_sorts(self):
        for n in LINES:
            self.assert_same(ahead(n, ()), ())
            self.assert_same(ahead(n, sorter(n)), all_pairs(n))
            self.assert_same(ahead(n, ((n - 2, n - 1),) * 1000), ((n - 2, n - 1),))
            for network in kept_networks(n, 4):
                self.assert_same(ahead(n, network), slow_ahead(n, network), n, network)

    def test_what_comes_can_come_to_24_lines(self):
        for n in LINES:
            draw = random.Random(n)
            for network in kept_networks(n, 5, 60):
                pairs = slow_ahead(n, network)
                for _ in range(4):
                    row = slow_run(network, tuple(draw.sample(range(n), n)))[0]
                    self.assert_comes(n, network, row)
                    p, q = draw.choice(all_pairs(n))
                    other = list(row)
                    other[p], other[q] = other[q], other[p]
                    if all(other[a] < other[b] for a, b in pairs):
                        self.assert_comes(n, network, tuple(other))
                    else:
                        self.assert_same(can_come(n, network, tuple(other)), None, n, network, other)

    def test_one_pair_the_wrong_way_about_cannot_come(self):
        for n in LINES:
            ascending = tuple(range(n))
            self.assert_comes(n, sorter(n), ascending)
            for k in range(n - 1):
                row = ascending[:k] + (k + 1, k) + ascending[k + 2:]
                self.assert_same(can_come(n, sorter(n), row), None)
                self.assert_same(can_come(n, ((k, k + 1),), row), None)
                self.assert_same(can_come(n, (), row), row)

    def test_no_gates_and_1000(self):
        for n in LINES:
            draw = random.Random(n)
            row = tuple(draw.sample(range(n), n))
            self.assert_same(can_come(n, (), row), row)
            network = tuple(draw.choices([(k, k + 1) for k in range(n - 1)], k=1000))
            self.assert_comes(n, network, slow_run(network, row)[0])
            self.assert_same(ahead(n, network), slow_ahead(n, network))

    def test_counts_to_ten_lines(self):
        for n in WORDY:
            self.assert_same(come_count(n, ()), math.factorial(n))
            self.assert_same(come_count(n, sorter(n)), 1)
            self.assert_same(come_count(n, sorter(n) * 20), 1)
            for k in range(n - 1):
                self.assert_same(come_count(n, ((k, k + 1),)), math.factorial(n) // 2)
            # The greatest key comes last, of all others nothing is sure.
            pass_on = tuple((k, k + 1) for k in range(n - 1))
            self.assert_same(come_count(n, pass_on), math.factorial(n - 1))
            apart = tuple((k, k + 1) for k in range(0, n - 1, 2))
            self.assert_same(come_count(n, apart), math.factorial(n) // 2 ** (n // 2))
            half = sorter(n // 2)
            self.assert_same(come_count(n, half), math.factorial(n) // math.factorial(n // 2))

    def test_counts_of_seven_lines(self):
        for network in kept_networks(7, 6, 30)[::3]:
            rows = itertools.permutations(range(7))
            told = sum(slow_lets(slow_ahead(7, network), row) for row in rows)
            self.assert_same(come_count(7, network), told, network)


class WhatHoldsTest(ComingsCase):
    def test_what_is_ahead_is_what_is_sure(self):
        for n in WORDY:
            for network in kept_networks(n, 7):
                self.assert_same(ahead(n, network), sure(n, (), network), n, network)

    def test_a_row_can_come_exactly_if_it_ascends_along_all_pairs(self):
        for n in (2, 3, 4, 5):
            for network in kept_networks(n, 8):
                pairs = ahead(n, network)
                for row in itertools.permutations(range(n)):
                    told = can_come(n, network, row) is not None
                    self.assertEqual(told, all(row[a] < row[b] for a, b in pairs), (n, network, row))

    def test_a_further_near_gate_makes_one_pair_more_or_is_idle(self):
        for n in LINES:
            for network in kept_networks(n, 9):
                many = len(ahead(n, network))
                for k in range(n - 1):
                    told = many + ((k, k + 1) not in ahead(n, network))
                    self.assertEqual(len(ahead(n, network + ((k, k + 1),))), told, (n, network, k))

    def test_pairs_that_can_be_ahead_are_those_of_images(self):
        # Of all orders of three lines these are ahead of some network: one for each rearrangement.
        found = {ahead(3, network) for network in all_networks(3, 3) if keeps_all(3, network)}
        self.assertEqual(len(found), 6)
        self.assertLess(len(found), len(all_orders(3)))


class CallsTest(ComingsCase):
    def test_calls_by_place_and_by_name(self):
        for n in WORDY:
            for network in drawn_networks(n, 10)[::3]:
                self.assert_calls(ahead, n=n, network=network)
                self.assert_calls(come_count, n=n, network=network)
                for row in (tuple(range(n)), tuple(range(n - 1, -1, -1))):
                    self.assert_calls(can_come, n=n, network=network, row=row)

    def test_the_functions_are_defined_in_their_file(self):
        self.assert_defined(comings, "ahead", "can_come", "come_count")

    def test_it_takes_no_long_time(self):
        began = time.process_time()
        network = tuple((k, k + 1) for k in range(9)) * 111
        self.assertEqual(answer(come_count, 10, network), "1")
        self.assertEqual(answer(come_count, 10, ()), "3628800")
        self.assert_comes(24, sorter(24) * 3, tuple(range(24)))
        self.assertLess(time.process_time() - began, 2)
