"""[F5] and [F6], and what [F7] and [F8] say of them."""

import functools
import itertools
import random
import time

from tests.same import SameTest
from tests.samples import (
    LINES, WORDY, all_networks, all_pairs, all_words, drawn_networks, drawn_rows, kept_networks, slow_ahead,
    slow_keeps_all, slow_run, sorter,
)
from tieskept import mending
from tieskept.comings import ahead
from tieskept.errors import Unmendable
from tieskept.images import image, keeps_all
from tieskept.mending import least_network, mended
from tieskept.networks import network_error


def few_rows(n):
    return list(itertools.product(range(3), repeat=n))


@functools.lru_cache(maxsize=None)
def least_gates(n, most):
    """Return for what networks of all sorts of gates do to things the least number of gates, up to most."""
    rows = few_rows(n)
    found = {tuple(tuple(range(n)) for _ in rows): 0}
    last = list(found)
    for many in range(1, most + 1):
        longer = []
        for places in last:
            for i, j in all_pairs(n):
                moved = []
                for row, here in zip(rows, places):
                    if row[here[i]] > row[here[j]]:
                        here = here[:i] + (here[j],) + here[i + 1:j] + (here[i],) + here[j + 1:]
                    moved.append(here)
                moved = tuple(moved)
                if moved not in found:
                    found[moved] = many
                    longer.append(moved)
        last = longer
    return found


@functools.lru_cache(maxsize=None)
def near_ends(n):
    """Return what comes out of all words by the networks of near gates, for each image."""
    near = [(k, k + 1) for k in range(n - 1)]
    found = {}
    ways = [()]
    while ways:
        network = ways.pop()
        keys = slow_run(network, tuple(range(n, 0, -1)))[0]
        if keys not in found:
            found[keys] = tuple(slow_run(network, word)[0] for word in all_words(n))
            ways.extend([network + (gate,) for gate in near])
    return found


class LeastNetworkTest(SameTest):
    def check(self, n, network, rows):
        less = least_network(n, network)
        self.assertIsNone(network_error(n, less), less)
        self.assertEqual(len(less), len(slow_ahead(n, network)), (n, network))
        for row in rows:
            self.assert_same(slow_run(less, row)[1], slow_run(network, row)[1], n, network, row)
        return less

    def test_all_networks_of_few_gates(self):
        for n, most in ((2, 4), (3, 5), (4, 3)):
            for network in all_networks(n, most):
                if slow_keeps_all(n, network):
                    self.check(n, network, few_rows(n))
                else:
                    self.assert_raises("Unfit()", least_network, n, network)

    def test_no_network_of_fewer_gates_does_the_same(self):
        for n, most in ((2, 2), (3, 4), (4, 5)):
            found = least_gates(n, most)
            networks = [*all_networks(n, 3), *kept_networks(n, 1, 12), sorter(n), sorter(n) + all_pairs(n)]
            for network in networks:
                if slow_keeps_all(n, network):
                    less = least_network(n, network)
                    told = tuple(slow_run(network, row)[1] for row in few_rows(n))
                    # What is not found needs more gates than were tried.
                    self.assertEqual(min(len(less), most + 1), found.get(told, most + 1), (n, network))

    def test_networks_of_all_sorts_to_24_lines(self):
        for n in LINES:
            for network in kept_networks(n, 2, 60):
                self.check(n, network, drawn_rows(n, 2))
            for network in drawn_networks(n, 2):
                if not slow_keeps_all(n, network):
                    self.assert_raises("Unfit()", least_network, n, network)

    def test_no_gates_and_1000(self):
        for n in LINES:
            self.assert_same(least_network(n, ()), ())
            self.assert_same(least_network(n, ((n - 2, n - 1),) * 1000), ((n - 2, n - 1),))
            self.assertEqual(len(least_network(n, sorter(n) * 3)), n * (n - 1) // 2)
            network = tuple(random.Random(n).choices([(k, k + 1) for k in range(n - 1)], k=1000))
            self.check(n, network, drawn_rows(n, 3))


class MendedTest(SameTest):
    def check(self, n, network):
        """Look at all words, and tell whether the network was mended."""
        told = slow_run(network, tuple(range(n, 0, -1)))[0]
        try:
            near = mended(n, network)
        except Unmendable as error:
            # The networks of near gates with this image all do the same: so one of them shows it.
            self.assertEqual(list(vars(error)), ["word"])
            self.assertEqual((type(error.word), len(error.word)), (tuple, n))
            self.assertEqual([type(item) for item in error.word], [int] * n)
            self.assertLessEqual(set(error.word), {0, 1})
            lines = self.near_out(n, told, error.word)
            self.assertNotEqual(slow_run(network, error.word)[0], lines, (n, network))
            return False
        self.assertIsNone(network_error(n, near))
        self.assertTrue(all(j == i + 1 for i, j in near), near)
        self.assert_same(slow_run(near, tuple(range(n, 0, -1)))[0], told)
        for word in all_words(n):
            self.assert_same(slow_run(near, word)[0], slow_run(network, word)[0], n, network, word)
        return True

    def near_out(self, n, keys, word):
        """What comes out of word by a network of near gates that has keys as its image, found from its end."""
        lines, gates = list(keys), []
        while lines != sorted(lines, reverse=True):
            k = next(k for k in range(n - 1) if lines[k] < lines[k + 1])
            lines[k:k + 2] = [lines[k + 1], lines[k]]
            gates.insert(0, (k, k + 1))
        self.assertEqual(slow_run(gates, tuple(range(n, 0, -1)))[0], keys)
        return slow_run(gates, word)[0]

    def test_all_networks_of_few_gates(self):
        found = {True: 0, False: 0}
        for n, most in ((2, 4), (3, 5), (4, 3)):
            ends = near_ends(n)
            for network in all_networks(n, most):
                end = tuple(slow_run(network, word)[0] for word in all_words(n))
                self.assertEqual(self.check(n, network), end in ends.values(), (n, network))
                found[end in ends.values()] += 1
        self.assertGreater(min(found.values()), 100)

    def test_mended_networks_do_the_same_to_all_rows(self):
        for n in (2, 3, 4):
            for network in drawn_networks(n, 1, 12):
                try:
                    near = mended(n, network)
                except Unmendable:
                    continue
                for row in itertools.product(range(n), repeat=n):
                    self.assert_same(slow_run(near, row)[0], slow_run(network, row)[0], n, network, row)

    def test_networks_of_all_sorts_to_ten_lines(self):
        for n in WORDY:
            draw = random.Random(n)
            for network in drawn_networks(n, 2):
                if n < 8 or draw.randrange(4) == 0:
                    self.check(n, network)

    def test_networks_that_sort_are_mended(self):
        for n in WORDY:
            for network in (sorter(n), all_pairs(n), all_pairs(n)[::-1] + sorter(n), all_pairs(n) * 3):
                self.assert_same(self.check(n, network), True)
                self.assertEqual(len(mended(n, network)), n * (n - 1) // 2)

    def test_networks_that_keep_ties_are_mended_and_do_the_same_to_things(self):
        for n in WORDY:
            rows = drawn_rows(n, 3)
            for network in kept_networks(n, 3):
                near = mended(n, network)
                self.assertEqual(len(near), len(least_network(n, network)), (n, network))
                for row in rows:
                    self.assert_same(slow_run(near, row)[1], slow_run(network, row)[1], n, network, row)

    def test_one_far_gate_cannot_be_mended(self):
        for n in range(3, 11):
            for i, j in all_pairs(n):
                if j > i + 1 and (n < 9 or j == i + 2):
                    self.assert_same(self.check(n, ((i, j),)), False)
        with self.assertRaises(Unmendable) as context:
            mended(3, ((0, 2),))
        self.assertIn(context.exception.word, ((1, 0, 1), (0, 1, 0)))

    def test_no_gates_and_1000(self):
        for n in WORDY:
            self.assert_same(mended(n, ()), ())
            self.assert_same(mended(n, ((0, 1),) * 1000), ((0, 1),))
            if n < 8:
                self.check(n, tuple(random.Random(n).choices(all_pairs(n), k=1000)))


class WhatHoldsTest(SameTest):
    def test_least_network_of_least_network_has_as_many_gates(self):
        for n in LINES:
            for network in kept_networks(n, 4):
                less = least_network(n, network)
                self.assertEqual(len(least_network(n, less)), len(less))
                self.assertEqual(len(less), len(ahead(n, network)))
                self.assert_same(image(n, less), image(n, network))
                self.assert_same(keeps_all(n, less), True)

    def test_mended_of_mended_does_the_same(self):
        for n in WORDY:
            for network in kept_networks(n, 5):
                near = mended(n, network)
                self.assert_same(keeps_all(n, near), True)
                self.assertEqual(len(mended(n, near)), len(near))
                self.assert_same(image(n, near), image(n, network))


class CallsTest(SameTest):
    def test_calls_by_place_and_by_name(self):
        for n in WORDY:
            for network in drawn_networks(n, 6)[::4]:
                self.assert_calls(least_network, n=n, network=network)
                self.assert_calls(mended, n=n, network=network)

    def test_the_functions_are_defined_in_their_file(self):
        self.assert_defined(mending, "least_network", "mended")

    def test_it_takes_no_long_time(self):
        began = time.process_time()
        self.assertEqual(len(mended(10, (all_pairs(10) * 30)[:1000])), 45)
        self.assertEqual(len(least_network(24, sorter(24) * 3)), 276)
        self.assertLess(time.process_time() - began, 3)
