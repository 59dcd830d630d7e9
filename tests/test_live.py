"""[C1], [C2] and [C3], and what [C4] says of them."""

import functools
import itertools
import random
import time

from tests.same import SameTest
from tests.samples import (
    WORDY, all_networks, all_orders, all_pairs, all_words, drawn_networks, drawn_orders, slow_closed,
    slow_let_words, slow_lets, slow_run, sorter, wordy_cases,
)
from tieskept import live as module
from tieskept.live import bare, live, live_word, sure, unlike_word, unsorted_word


@functools.lru_cache(maxsize=None)
def word_runs(n, network):
    """Return for each word of n the keys that come out, the places from which the things come, and the spots."""
    return {word: slow_run(network, word) for word in all_words(n)}


def slow_live(n, order, network):
    """The spots of the gates that exchange on some let word."""
    runs = word_runs(n, network)
    return tuple(sorted({spot for word in slow_let_words(n, order) for spot in runs[word][2]}))


def slow_sure(n, order, network):
    runs = word_runs(n, network)
    ends = {runs[word][0] for word in slow_let_words(n, order)}
    return tuple((i, j) for i, j in all_pairs(n) if all(end[i] <= end[j] for end in ends))


def more_orders(n, order, draw):
    """Return orders that have all pairs of order, and one or two more."""
    pairs = all_pairs(n)
    return [tuple(sorted({*order, *draw.choices(pairs, k=many)})) for many in (1, 1, 2)]


class LiveTest(SameTest):
    def check(self, n, order, network):
        spots = slow_live(n, order, network)
        self.assert_same(live(n, order, network), spots, n, order, network)
        self.assert_same(bare(n, order, network), tuple(network[spot] for spot in spots), n, order, network)

    def test_all_let_words_to_ten_lines(self):
        for n, order, network in wordy_cases(1):
            self.check(n, order, network)

    def test_all_orders_and_networks_of_few_lines_and_gates(self):
        for n, most in ((2, 4), (3, 3)):
            for network in all_networks(n, most):
                for order in all_orders(n):
                    self.check(n, order, network)

    def test_all_let_rows_of_three_keys_to_four_lines(self):
        for n in (2, 3, 4):
            rows = list(itertools.product(range(3), repeat=n))
            let = {order: [row for row in rows if slow_lets(order, row)] for order in all_orders(n)}
            for network in drawn_networks(n, 2):
                runs = {row: slow_run(network, row) for row in rows}
                for order in let:
                    spots = tuple(sorted({spot for row in let[order] for spot in runs[row][2]}))
                    self.assert_same(live(n, order, network), spots, n, order, network)

    def test_1000_gates(self):
        for n in (2, 3, 7):
            draw = random.Random(n)
            for network in (tuple(draw.choices(all_pairs(n), k=1000)), ((0, 1),) * 999 + ((0, n - 1),)):
                for order in ((), ((0, n - 1),), ((0, 1),)):
                    self.check(n, order, network)

    def test_no_gates(self):
        for n in WORDY:
            for order in drawn_orders(n, 3):
                self.assert_same(live(n, order, ()), ())
                self.assert_same(bare(n, order, ()), ())

    def test_where_only_rows_that_ascend_are_let_no_gate_is_live(self):
        for n in WORDY:
            for network in drawn_networks(n, 4):
                self.assert_same(live(n, tuple((p, p + 1) for p in range(n - 1)), network), ())
                self.assert_same(bare(n, all_pairs(n), network), ())


class LiveWordTest(SameTest):
    def check(self, n, order, network, spots):
        alive = slow_live(n, order, network)
        for spot in spots:
            if spot in alive:
                word = live_word(n, order, network, spot)
                self.assert_let(n, order, word)
                self.assertIn(spot, slow_run(network, word)[2], (n, order, network))
            else:
                self.assert_raises("Unfit()", live_word, n, order, network, spot)

    def test_each_gate_of_networks_of_all_sorts(self):
        draw = random.Random(1)
        for n, order, network in wordy_cases(1):
            if n < 8:
                self.check(n, order, network, range(len(network)))
            else:
                self.check(n, order, network, draw.sample(range(len(network)), min(3, len(network))))

    def test_all_orders_and_networks_of_few_lines_and_gates(self):
        for n, most in ((2, 4), (3, 3)):
            for network in all_networks(n, most):
                for order in all_orders(n):
                    self.check(n, order, network, range(len(network)))

    def test_the_last_one_of_1000_gates(self):
        for n in (2, 3, 10):
            self.assert_raises("Unfit()", live_word, n, (), ((0, 1),) * 1000, 999)
            self.assert_raises("Unfit()", live_word, n, (), ((0, 1),) * 1000, 1)
        self.assert_same(live_word(2, (), ((0, 1),) * 1000, 0), (1, 0))
        late = ((0, 1),) * 999 + ((1, 2),)
        self.assertIn(live_word(3, (), late, 999), ((1, 0, 0), (0, 1, 0), (1, 1, 0)))
        self.assert_raises("Unfit()", live_word, 3, ((0, 2), (1, 2)), late, 999)


class SureTest(SameTest):
    def test_all_let_words_to_ten_lines(self):
        for n, order, network in wordy_cases(1):
            self.assert_same(sure(n, order, network), slow_sure(n, order, network), n, order, network)

    def test_all_orders_and_networks_of_few_lines_and_gates(self):
        for n, most in ((2, 4), (3, 3)):
            for network in all_networks(n, most):
                for order in all_orders(n):
                    self.assert_same(sure(n, order, network), slow_sure(n, order, network), n, order, network)

    def test_all_let_rows_of_three_keys_to_four_lines(self):
        for n in (2, 3, 4):
            rows = list(itertools.product(range(3), repeat=n))
            let = {order: [row for row in rows if slow_lets(order, row)] for order in all_orders(n)}
            for network in drawn_networks(n, 5):
                ends = {row: slow_run(network, row)[0] for row in rows}
                for order in let:
                    keys = {ends[row] for row in let[order]}
                    told = tuple((i, j) for i, j in all_pairs(n) if all(key[i] <= key[j] for key in keys))
                    self.assert_same(sure(n, order, network), told, n, order, network)
                    falls = any(list(key) != sorted(key) for key in keys)
                    self.assertEqual(unsorted_word(n, order, network) is not None, falls, (n, order, network))

    def test_1000_gates(self):
        for n in (2, 3, 7):
            network = tuple(random.Random(n).choices(all_pairs(n), k=1000))
            for order in ((), ((0, 1),)):
                self.assert_same(sure(n, order, network), slow_sure(n, order, network), n, order)
                self.assert_same(unsorted_word(n, order, network), None)


class UnsortedWordTest(SameTest):
    def check(self, n, order, network):
        word = unsorted_word(n, order, network)
        if word is None:
            runs = word_runs(n, network)
            for let in slow_let_words(n, order):
                self.assertEqual(list(runs[let][0]), sorted(let), (n, order, network))
        else:
            self.assert_let(n, order, word)
            self.assertNotEqual(list(slow_run(network, word)[0]), sorted(word), (n, order, network))

    def test_all_let_words_to_ten_lines(self):
        for n, order, network in wordy_cases(1):
            self.check(n, order, network)

    def test_all_orders_and_networks_of_few_lines_and_gates(self):
        for n, most in ((2, 4), (3, 4)):
            for network in all_networks(n, most):
                for order in all_orders(n):
                    self.check(n, order, network)

    def test_sorters_and_sorters_without_a_gate(self):
        for n in WORDY:
            self.assert_same(unsorted_word(n, (), sorter(n)), None)
            self.assert_same(unsorted_word(n, all_pairs(n), ()), None)
            for spot in range(len(sorter(n))):
                network = sorter(n)[:spot] + sorter(n)[spot + 1:]
                self.assertIsNotNone(unsorted_word(n, (), network), (n, spot))
                self.check(n, (), network)

    def test_only_the_last_lines_fall(self):
        for n in WORDY:
            self.assert_same(unsorted_word(n, all_pairs(n - 1), ()) is None, False)
            chain = tuple((p, p + 1) for p in range(n - 2))
            self.assert_let(n, chain, unsorted_word(n, chain, ()))
            self.assert_same(unsorted_word(n, chain, ((n - 2, n - 1),)) is None, n == 2)


class UnlikeWordTest(SameTest):
    def check(self, n, order, one, other):
        runs, others = word_runs(n, one), word_runs(n, other)
        unlike = [word for word in slow_let_words(n, order) if runs[word][0] != others[word][0]]
        word = unlike_word(n, order, one, other)
        self.assertEqual(word is None, not unlike, (n, order, one, other))
        if unlike:
            self.assert_let(n, order, word)
            self.assertIn(word, unlike)

    def test_all_let_words_to_ten_lines(self):
        ahead = {}
        for n, order, network in wordy_cases(1):
            spot = len(network) // 2
            self.check(n, order, network, ahead.get(n, ()))
            self.check(n, order, network, network)
            self.check(n, order, network, network[:spot] + network[spot + 1:])
            ahead[n] = network

    def test_all_pairs_of_networks_of_few_lines_and_gates(self):
        for n, most, orders in ((2, 3, all_orders(2)), (3, 2, all_orders(3))):
            networks = all_networks(n, most)
            for one in networks:
                for other in networks:
                    for order in orders:
                        self.check(n, order, one, other)

    def test_all_let_rows_of_three_keys_to_four_lines(self):
        for n in (2, 3, 4):
            rows = list(itertools.product(range(3), repeat=n))
            orders = all_orders(n)[::3]
            let = {order: [row for row in rows if slow_lets(order, row)] for order in orders}
            networks = drawn_networks(n, 6, 8)
            ends = {network: {row: slow_run(network, row)[0] for row in rows} for network in networks}
            for one, other in zip(networks, networks[1:]):
                for order in orders:
                    unlike = any(ends[one][row] != ends[other][row] for row in let[order])
                    self.assertEqual(unlike_word(n, order, one, other) is not None, unlike, (n, order, one, other))

    def test_1000_gates(self):
        for n in (2, 3, 7):
            network = tuple(random.Random(n).choices(all_pairs(n), k=1000))
            self.check(n, (), network, sorter(n))
            self.check(n, (), network, ((0, 1),) * 1000)
            self.check(n, ((0, 1),), ((0, 1),) * 1000, ())


class WhatHoldsTest(SameTest):
    def test_bare_leads_all_things_of_let_words_as_the_network_does(self):
        for n, order, network in wordy_cases(1):
            less = bare(n, order, network)
            runs = word_runs(n, network)
            for word in slow_let_words(n, order)[::7]:
                self.assert_same(slow_run(less, word)[1], runs[word][1], n, order, network, word)
            self.assert_same(live(n, order, less), tuple(range(len(less))))
            self.assert_same(bare(n, order, less), less)
            self.assert_same(unlike_word(n, order, network, less), None)

    def test_bare_leads_all_things_of_let_rows_as_the_network_does(self):
        for n in (2, 3, 4):
            rows = list(itertools.product(range(3), repeat=n))
            for order in all_orders(n)[::2]:
                let = [row for row in rows if slow_lets(order, row)]
                for network in drawn_networks(n, 7, 12)[::3]:
                    less = bare(n, order, network)
                    for row in let:
                        self.assert_same(slow_run(less, row)[1], slow_run(network, row)[1], order, network, row)

    def test_a_pair_more_never_makes_a_gate_live(self):
        draw = random.Random(8)
        for n, order, network in wordy_cases(8):
            for more in more_orders(n, order, draw):
                self.assertLessEqual(set(live(n, more, network)), set(live(n, order, network)))
                self.assertLessEqual(set(sure(n, order, network)), set(sure(n, more, network)))
                self.assertLessEqual(len(bare(n, more, network)), len(bare(n, order, network)))

    def test_orders_that_let_the_same_rows_tell_the_same(self):
        for n, order, network in wordy_cases(9):
            most = slow_closed(order)
            self.assert_same(live(n, most, network), live(n, order, network))
            self.assert_same(bare(n, most, network), bare(n, order, network))
            self.assert_same(sure(n, most, network), sure(n, order, network))
            nothing = unsorted_word(n, order, network) is None
            self.assertEqual(unsorted_word(n, most, network) is None, nothing)
            nothing = unlike_word(n, order, network, ()) is None
            self.assertEqual(unlike_word(n, most, network, ()) is None, nothing)

    def test_a_gate_put_behind_is_idle_exactly_if_it_is_sure(self):
        draw = random.Random(10)
        for n, order, network in wordy_cases(10):
            pairs = sure(n, order, network)
            for gate in draw.sample(all_pairs(n), min(4, len(all_pairs(n)))):
                longer = network + (gate,)
                idle = len(network) not in live(n, order, longer)
                self.assertEqual(gate in pairs, idle, (n, order, network, gate))
                self.assertIn(gate, sure(n, order, longer))

    def test_sure_without_gates_is_closed(self):
        for n in WORDY:
            for order in drawn_orders(n, 11):
                self.assert_same(sure(n, order, ()), slow_closed(order), n, order)

    def test_no_unsorted_word_exactly_if_all_pairs_are_sure(self):
        for n, order, network in wordy_cases(12):
            nothing = unsorted_word(n, order, network) is None
            self.assertEqual(nothing, sure(n, order, network) == all_pairs(n), (n, order, network))

    def test_networks_that_are_like_a_third_one_are_alike(self):
        for n in (2, 3):
            networks = all_networks(n, 3)
            for order in ((), ((0, n - 1),)):
                like = [network for network in networks if unlike_word(n, order, sorter(n), network) is None]
                self.assertGreater(len(like), 1)
                for one in like:
                    for other in like:
                        self.assert_same(unlike_word(n, order, one, other), None)


class CallsTest(SameTest):
    def test_calls_by_place_and_by_name(self):
        for n, order, network in wordy_cases(13)[::5]:
            for function in (live, bare, sure, unsorted_word):
                self.assert_calls(function, n=n, order=order, network=network)
            self.assert_calls(unlike_word, n=n, order=order, one=network, other=((0, 1),))
            for spot in range(min(3, len(network))):
                self.assert_calls(live_word, n=n, order=order, network=network, spot=spot)

    def test_the_functions_are_defined_in_their_file(self):
        self.assert_defined(module, "live", "live_word", "bare", "sure", "unsorted_word", "unlike_word")

    def test_ten_lines_and_1000_gates_take_no_long_time(self):
        network = (all_pairs(10) * 30)[:1000]
        began = time.process_time()
        self.assertEqual(len(live(10, (), network)), len(bare(10, (), network)))
        self.assert_raises("Unfit()", live_word, 10, (), network, 999)
        self.assertEqual(sure(10, (), network), all_pairs(10))
        self.assertIsNone(unsorted_word(10, (), network))
        self.assertIsNone(unlike_word(10, (), network, sorter(10)))
        self.assertLess(time.process_time() - began, 5)
