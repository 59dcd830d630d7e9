"""[D5], and what [D1], [D6] and [D7] say of it."""

import functools
import itertools
import random
import time

from tests.same import SameTest
from tests.samples import (
    all_networks, all_orders, all_pairs, drawn_networks, drawn_orders, let_bits, slow_first_far, slow_let_words,
    slow_run, slow_turns, sorter, turned_bits,
)
from tieskept import telling
from tieskept.telling import fewest_told
from tieskept.ties import keeps_ties

TOLD = range(2, 7)


@functools.lru_cache(maxsize=None)
def orders_by_pairs(n):
    """Return all orders of n, the fewest pairs first."""
    return all_orders(n)


def slow_many(n, order, network):
    """How many pairs the least order has by which no two things are turned, found by trying all orders and rows."""
    for told in orders_by_pairs(n):
        if set(order) <= set(told) and not turned_bits(n, network) & let_bits(n, told):
            return len(told)


def slow_many_by_words(n, order, network):
    """As slow_many, by the let words on which a far gate exchanges, each of which some pair keeps away."""
    bad = []
    for word in slow_let_words(n, order):
        if any(network[spot][1] - network[spot][0] > 1 for spot in slow_run(network, word)[2]):
            bad.append({(p, q) for p, q in all_pairs(n) if word[p] > word[q]})
    free = [pair for pair in all_pairs(n) if pair not in order]
    for many in range(len(free) + 1):
        for more in itertools.combinations(free, many):
            if all(pairs & set(more) for pairs in bad):
                return len(order) + many


class FewestToldTest(SameTest):
    def check(self, n, order, network, many):
        told = fewest_told(n, order, network)
        self.assert_same(told, tuple(sorted(set(told))), n, order, network)
        self.assertLessEqual(set(told), set(all_pairs(n)))
        self.assert_same([type(line) for pair in told for line in pair], [int] * (2 * len(told)))
        self.assertLessEqual(set(order), set(told), (n, network))
        self.assertEqual(len(told), many, (n, order, network, told))
        self.assertIsNone(slow_first_far(n, told, network), (n, order, network, told))
        return told

    def test_all_networks_of_two_and_three_lines_by_all_rows(self):
        for n, most in ((2, 4), (3, 4)):
            for network in all_networks(n, most):
                for order in all_orders(n):
                    told = self.check(n, order, network, slow_many(n, order, network))
                    self.assertEqual(turned_bits(n, network) & let_bits(n, told), 0)

    def test_networks_of_four_lines_by_all_rows(self):
        draw = random.Random(1)
        for network in [*drawn_networks(4, 1, 12), *draw.sample(all_networks(4, 2), 10)]:
            for order in ((), *draw.sample(all_orders(4), 12)):
                told = self.check(4, order, network, slow_many(4, order, network))
                self.assertEqual(turned_bits(4, network) & let_bits(4, told), 0)

    def test_networks_and_orders_of_all_sorts_to_six_lines(self):
        for n in (4, 5, 6):
            draw = random.Random(n)
            orders = drawn_orders(n, 2)
            for network in drawn_networks(n, 2, 12):
                for order in ((), *draw.sample(orders, 3)):
                    told = self.check(n, order, network, slow_many_by_words(n, order, network))
                    for word in slow_let_words(n, told):
                        self.assertEqual(slow_turns(network, word), [], (n, order, network, told))

    def test_one_far_gate_asks_for_its_pair_alone(self):
        for n in (3, 4, 5, 6):
            for i, j in all_pairs(n):
                if j > i + 1:
                    self.assert_same(fewest_told(n, (), ((i, j),)), ((i, j),))
                    self.assert_same(fewest_told(n, ((i, j),), ((i, j),) * 1000), ((i, j),))

    def test_far_gates_without_a_common_line_ask_for_all_their_pairs(self):
        for n in (4, 5, 6):
            gates = tuple((k, k + n // 2) for k in range(n // 2))
            self.assert_same(fewest_told(n, (), gates), gates)
            self.assert_same(fewest_told(n, (), gates[::-1]), gates)

    def test_networks_that_keep_ties_ask_for_no_pair_more(self):
        for n in TOLD:
            for order in drawn_orders(n, 3):
                for network in ((), sorter(n), sorter(n)[::-1], sorter(n) + all_pairs(n), ((0, 1),) * 1000):
                    self.assert_same(fewest_told(n, order, network), order, n, network)
            # With all pairs, and with all neighbours told, only rows that ascend come.
            chain = tuple((p, p + 1) for p in range(n - 1))
            for network in drawn_networks(n, 3):
                self.assert_same(fewest_told(n, all_pairs(n), network), all_pairs(n))
                self.assert_same(fewest_told(n, chain, network), chain)

    def test_all_pairs_of_two_lines(self):
        for order in ((), ((0, 1),)):
            for many in (0, 1, 2, 1000):
                self.assert_same(fewest_told(2, order, ((0, 1),) * many), order)

    def test_pairs_that_follow_of_others_stay_if_they_are_told_and_need_not_be_told_else(self):
        order = ((0, 1), (0, 2), (1, 2))
        self.assert_same(fewest_told(3, order, ((0, 2),)), order)
        self.assert_same(fewest_told(3, ((0, 1), (1, 2)), ((0, 2),)), ((0, 1), (1, 2)))
        self.check(4, ((0, 1), (0, 2)), ((0, 2), (0, 3)), 3)

    def test_1000_gates(self):
        for n in TOLD:
            network = tuple(random.Random(n).choices(all_pairs(n), k=1000))
            for order in ((), ((0, n - 1),)):
                self.check(n, order, network, slow_many_by_words(n, order, network))


class WhatHoldsTest(SameTest):
    def test_it_is_the_order_exactly_if_ties_are_kept(self):
        for n in TOLD:
            draw = random.Random(n)
            for network in drawn_networks(n, 4, 10):
                for order in draw.sample(drawn_orders(n, 4), 5):
                    told = fewest_told(n, order, network)
                    self.assertEqual(told == order, keeps_ties(n, order, network), (n, order, network))
                    self.assert_same(keeps_ties(n, told, network), True)
                    self.assert_same(fewest_told(n, told, network), told)

    def test_one_pair_less_than_are_told_more_does_not_do(self):
        for n in (3, 4, 5, 6):
            for network in drawn_networks(n, 5, 10):
                told = fewest_told(n, (), network)
                for spot in range(len(told)):
                    self.assert_same(keeps_ties(n, told[:spot] + told[spot + 1:], network), False, n, network)

    def test_with_a_pair_more_no_more_others_are_asked_for(self):
        draw = random.Random(6)
        for n in (3, 4, 5, 6):
            for network in drawn_networks(n, 6, 10):
                pair = draw.choice(all_pairs(n))
                least = len(fewest_told(n, (), network))
                self.assertLessEqual(len(fewest_told(n, (pair,), network)), least + 1)
                self.assertGreaterEqual(len(fewest_told(n, (pair,), network)), least)


class CallsTest(SameTest):
    def test_calls_by_place_and_by_name(self):
        for n in TOLD:
            for network in drawn_networks(n, 7, 10)[::3]:
                for order in drawn_orders(n, 7)[::5]:
                    self.assert_calls(fewest_told, n=n, order=order, network=network)

    def test_the_function_is_defined_in_its_file(self):
        self.assert_defined(telling, "fewest_told")

    def test_six_lines_and_1000_gates_take_no_long_time(self):
        far = tuple((i, j) for i, j in all_pairs(6) if j > i + 1)
        for network in (far * 100, far[::-1] * 100, (all_pairs(6) * 67)[:1000]):
            began = time.process_time()
            told = fewest_told(6, (), network)
            self.assert_same(keeps_ties(6, told, network), True)
            self.assertLess(time.process_time() - began, 2)
