"""[D1], [D2], [D3] and [D4], and what [D6] and [D7] say of them."""

import itertools
import random
import time

from tests.anyvalues import any_values
from tests.same import SameTest
from tests.samples import (
    LINES, WORDY, all_networks, all_orders, all_pairs, drawn_networks, drawn_orders, let_bits, slow_first_far,
    slow_let_words, slow_lets, slow_paper_holds, slow_run, slow_turns, sorter, turned_bits, wordy_cases,
)
from tieskept import ties
from tieskept.ties import clean_word, keeps_ties, kept_gates, paper_holds, passing


def slow_kept(n, order, network):
    """How many first gates turn no things on any let row of as many keys as lines, though one more does."""
    for many in range(len(network)):
        if turned_bits(n, network[:many + 1]) & let_bits(n, order):
            return many
    return len(network)


class TiesCase(SameTest):
    def assert_clean(self, n, order, network, spot):
        """The word of clean_word has noughts ahead of the gate at spot, 1 and 0 on its lines, ones behind it."""
        word = clean_word(n, order, network)
        self.assert_let(n, order, word)
        lines = slow_run(network[:spot], word)[0]
        i, j = network[spot]
        self.assertEqual(lines[:i] + (1,), (0,) * i + (lines[i],), (n, order, network))
        self.assertEqual((0,) + lines[j + 1:], (lines[j],) + (1,) * (n - 1 - j), (n, order, network))
        self.assertNotEqual(slow_turns(network, word), [], (n, order, network))

    def assert_paper(self, n, order, network):
        value = passing(n, order, network)
        self.assertTrue(slow_paper_holds(n, order, network, value), (n, order, network, value))
        self.assert_same(paper_holds(n, order, network, value), True, n, order, network, value)

    def assert_keeps(self, n, order, network):
        self.assert_same(keeps_ties(n, order, network), True, n, order, network)
        self.assert_same(kept_gates(n, order, network), len(network), n, order, network)
        self.assert_raises("Unfit()", passing, n, order, network)
        self.assert_raises("Unfit()", clean_word, n, order, network)

    def assert_turns(self, n, order, network, spot):
        self.assert_same(keeps_ties(n, order, network), False, n, order, network)
        self.assert_same(kept_gates(n, order, network), spot, n, order, network)
        self.assert_paper(n, order, network)
        self.assert_clean(n, order, network, spot)


class TiesTest(TiesCase):
    def check(self, n, order, network):
        spot = slow_first_far(n, order, network)
        if spot is None:
            self.assert_keeps(n, order, network)
        else:
            self.assert_turns(n, order, network, spot)

    def test_networks_and_orders_of_all_sorts_to_ten_lines(self):
        for n, order, network in wordy_cases(1):
            self.check(n, order, network)

    def test_all_networks_of_two_and_three_lines_by_all_let_rows(self):
        for n, most in ((2, 4), (3, 4)):
            for network in all_networks(n, most):
                for order in all_orders(n):
                    self.check_by_rows(n, order, network)

    def test_all_networks_of_four_lines_and_two_gates_by_all_let_rows(self):
        for network in all_networks(4, 2):
            for order in all_orders(4):
                self.check_by_rows(4, order, network)

    def test_networks_of_four_lines_by_all_let_rows(self):
        for network in drawn_networks(4, 2, 12):
            for order in all_orders(4):
                self.check_by_rows(4, order, network)

    def check_by_rows(self, n, order, network):
        keeps = not turned_bits(n, network) & let_bits(n, order)
        many = slow_kept(n, order, network)
        self.assertEqual(keeps, many == len(network), (n, order, network))
        if keeps:
            self.assert_keeps(n, order, network)
        else:
            self.assert_turns(n, order, network, many)

    def test_orders_that_keep_far_gates_from_work(self):
        for n in range(3, 11):
            for i, j in all_pairs(n):
                if j > i + 1:
                    self.assert_keeps(n, ((i, j),), ((i, j),))
                    chain = tuple((k, k + 1) for k in range(i, j))
                    self.assert_keeps(n, chain, ((i, j),) * 3)
                    for order in (chain[1:], chain[:-1], ()):
                        self.assert_turns(n, order, ((i, j),), 0)
            self.assert_keeps(n, all_pairs(n), all_pairs(n))
            if n > 3:
                self.assert_turns(n, ((0, 2),), ((0, 2), (1, 3)), 1)

    def test_far_gates_behind_others_that_make_them_idle(self):
        for n in range(3, 11):
            far = tuple(pair for pair in all_pairs(n) if pair[1] > pair[0] + 1)
            self.assert_keeps(n, (), sorter(n) + far)
            self.assert_keeps(n, (), sorter(n) + far[::-1] + sorter(n))
            # The pass on leads the greatest key to the end: so the last line alone is sure.
            pass_on = tuple((k, k + 1) for k in range(n - 1))
            last = tuple((k, n - 1) for k in range(n - 2))
            self.assert_keeps(n, (), pass_on + last)
            if n > 3:
                self.assert_turns(n, (), pass_on + last + ((0, 2),), len(pass_on + last))

    def test_things_once_turned_stay_so_whatever_comes_behind(self):
        for n in range(3, 8):
            for behind in (sorter(n), sorter(n)[::-1], all_pairs(n), ((0, n - 1),) * 5):
                self.assert_turns(n, (), ((0, n - 1),) + behind, 0)
                if n > 3:
                    self.assert_turns(n, (), ((0, 1), (n - 2, n - 1), (0, n - 1)) + behind, 2)

    def test_no_gates_and_near_gates_alone(self):
        for n in WORDY:
            for order in drawn_orders(n, 3)[::4]:
                self.assert_keeps(n, order, ())
                near = [(k, k + 1) for k in range(n - 1)]
                network = tuple(random.Random(n).choices(near, k=50))
                self.assert_keeps(n, order, network)
                self.assert_keeps(n, order, ((0, 1),) * 1000)

    def test_1000_gates(self):
        for n in (3, 5, 10):
            near = tuple(random.Random(n).choices([(k, k + 1) for k in range(n - 2)], k=999))
            # No gate ahead of the last one has the last line.
            self.assert_turns(n, (), near + ((0, n - 1),), 999)
            self.assert_keeps(n, tuple((p, n - 1) for p in range(n - 1)), near + ((0, n - 1),))
            network = tuple(random.Random(n).choices(all_pairs(n), k=1000))
            self.check(n, (), network)
            self.check(n, ((0, 1), (1, 2)), network)


class PaperHoldsTest(TiesCase):
    def check(self, n, order, network, value):
        told = slow_paper_holds(n, order, network, value)
        self.assert_same(paper_holds(n, order, network, value), told, n, order, network, value)

    def test_all_words_and_places_of_three_lines(self):
        words = [word for many in (2, 3, 4) for word in itertools.product((0, 1, 2, -1, True), repeat=many)]
        places = (-1, 0, 1, 2, 3, True, False, None)
        for order, network in (((), ((0, 2),)), (((0, 1),), ((0, 2),)), ((), ((0, 1), (0, 2), (1, 2)))):
            for word in words:
                for p in places:
                    for q in places:
                        self.check(3, order, network, (word, p, q))

    def test_all_words_and_places_of_four_lines(self):
        for network in drawn_networks(4, 4, 10):
            for order in all_orders(4)[::9]:
                for word in itertools.product((0, 1), repeat=4):
                    for p, q in itertools.product(range(-1, 5), repeat=2):
                        self.check(4, order, network, (word, p, q))

    def test_words_and_places_to_24_lines(self):
        found = {True: 0, False: 0}
        for n in LINES:
            draw = random.Random(n)
            orders = [set(order) for order in drawn_orders(n, 5)]
            for network in drawn_networks(n, 5):
                word = tuple(draw.choices((0, 1), k=n))
                turned = slow_turns(network, word)
                for p, q in [*draw.sample(all_pairs(n), min(3, len(all_pairs(n)))), *turned[:3]]:
                    order = tuple(sorted(draw.choice(orders)))
                    for told in ((), order, tuple(pair for pair in order if word[pair[0]] <= word[pair[1]])):
                        self.check(n, told, network, (word, p, q))
                        found[paper_holds(n, told, network, (word, p, q))] += 1
                        self.check(n, told, network, (word, q, p))
        self.assertGreater(found[True], 100)
        self.assertGreater(found[False], 100)

    def test_24_lines_and_1000_gates(self):
        network = ((0, 23),) + tuple((k, k + 1) for k in range(23)) * 43 + ((0, 23),) * 10
        word = (1,) + (0,) * 22 + (0,)
        self.assertEqual(len(network), 1000)
        self.assert_same(paper_holds(24, (), network, (word, 1, 23)), True)
        self.assert_same(paper_holds(24, (), network, (word, 1, 2)), False)
        self.assert_same(paper_holds(24, ((0, 1),), network, (word, 1, 23)), False)
        self.assert_same(paper_holds(24, ((0, 1),), network, ((1,) * 23 + (0,), 0, 1)), True)
        self.assert_same(paper_holds(24, tuple((p, p + 1) for p in range(23)), network, (word, 1, 23)), False)

    def test_a_right_paper_with_one_part_changed(self):
        right = ((1, 1, 0), 0, 1)
        leap = ((0, 2),)
        self.assert_same(paper_holds(3, (), leap, right), True)
        for wrong in any_values():
            for value in (
                wrong, (wrong,), (wrong, wrong, wrong), (wrong, 0, 1), ((1, 1, 0), wrong, 1), ((1, 1, 0), 0, wrong),
                ((1, 1, wrong), 0, 1), ((wrong, 1, 0), 0, 1), ((1, 1, 0, wrong), 0, 1), right + (wrong,),
                (wrong, right), [right, wrong], {0: right, 1: wrong}, (right, wrong, wrong),
            ):
                self.check(3, (), leap, value)

    def test_values_that_look_like_papers(self):
        for value in (
            ((True, True, 0), 0, 1), ((True, 1, 0), 0, 1), ((1, 1, False), 0, 1), ((1, 1, 0), False, 1),
            ((1, 1, 0), 0, True), ((1, 1, 0), False, True), [(1, 1, 0), 0, 1], ([1, 1, 0], 0, 1), "((1, 1, 0), 0, 1)",
            ("110", 0, 1), ((1, 1), 0, 1), ((1, 1, 0, 0), 0, 1), ((1, 1, 0), 0), ((1, 1, 0), 0, 1, 2),
            ((1, 1, 0), 1, 0), ((1, 1, 0), (0, 1)), ((1, 1, 0), 1, 1), ((1, 1, 0), 0, 0), ((1, 1, 0), -3, 1),
            ((1, 1, 0), 0, -2), ((1, 1, 0), 0, 3), ((1, 1, 0), 0, 2), ((1, 1, 0), 1, 2), ((2, 2, 0), 0, 1),
            ((2, 2, 1), 0, 1), ((1, 1, -1), 0, 1), ((5, 5, 3), 0, 1), ((0, 0, -1), 0, 1),
            ((10 ** 12, 10 ** 12, 0), 0, 1),
            ((1, 1, 1), 0, 1), ((0, 0, 0), 0, 1), ((1, 1, 0), "0", "1"), ((1, 1, 0), 0, 10 ** 399), (1, 1, 0), None,
            {0: (1, 1, 0), 1: 0, 2: 1}, ((1, 1, 0), None, None), (((1, 1, 0), 0, 1),), ((), 0, 1), (None, 0, 1),
        ):
            self.assert_same(paper_holds(3, (), ((0, 2),), value), False, value)
            self.assert_same(slow_paper_holds(3, (), ((0, 2),), value), False, value)
        for value in (((1, 1, 0), 0, 1), ((1, 0, 0), 1, 2)):
            self.assert_same(paper_holds(3, (), ((0, 2),), value), True, value)

    def test_no_value_is_a_paper_of_a_network_that_keeps_ties(self):
        for n in (2, 3, 4, 5):
            for order in ((), ((0, 1),)):
                for network in drawn_networks(n, 6, 12):
                    papers = [
                        (word, p, q) for word in slow_let_words(n, order) for p, q in all_pairs(n)
                        if paper_holds(n, order, network, (word, p, q))
                    ]
                    self.assertEqual(keeps_ties(n, order, network), not papers, (n, order, network))


class WhatHoldsTest(TiesCase):
    def test_kept_gates_keep_ties_and_one_more_does_not(self):
        for n, order, network in wordy_cases(7):
            many = kept_gates(n, order, network)
            self.assert_same(keeps_ties(n, order, network[:many]), True, n, order, network)
            self.assert_same(keeps_ties(n, order, network), many == len(network), n, order, network)
            if many < len(network):
                self.assert_same(keeps_ties(n, order, network[:many + 1]), False, n, order, network)

    def test_with_more_pairs_ties_are_kept_no_less(self):
        draw = random.Random(8)
        for n, order, network in wordy_cases(8):
            more = tuple(sorted({*order, *draw.choices(all_pairs(n), k=2)}))
            self.assertGreaterEqual(kept_gates(n, more, network), kept_gates(n, order, network))
            self.assertGreaterEqual(keeps_ties(n, more, network), keeps_ties(n, order, network))

    def test_a_clean_word_has_a_paper(self):
        for n, order, network in wordy_cases(9):
            if not keeps_ties(n, order, network):
                word = clean_word(n, order, network)
                self.assertTrue(any(paper_holds(n, order, network, (word, p, q)) for p, q in all_pairs(n)))


class CallsTest(TiesCase):
    def test_calls_by_place_and_by_name(self):
        for n, order, network in wordy_cases(10)[::5]:
            for function in (keeps_ties, kept_gates, passing, clean_word):
                self.assert_calls(function, n=n, order=order, network=network)
        for value in [*any_values(), ((1, 1, 0), 0, 1), ((1, 0, 0), 1, 2)]:
            self.assert_calls(paper_holds, n=3, order=((0, 1),), network=((0, 2),), value=value)
            self.assert_calls(paper_holds, n=3, order=(), network=((0, 2),), value=([1, 1, 0], value, 1))

    def test_the_functions_are_defined_in_their_file(self):
        self.assert_defined(ties, "keeps_ties", "kept_gates", "passing", "paper_holds", "clean_word")

    def test_ten_lines_and_1000_gates_take_no_long_time(self):
        near = tuple((k, k + 1) for k in range(9))
        for network in (near * 111, ((0, 1),) * 999 + ((0, 9),), (all_pairs(10) * 30)[:1000]):
            began = time.process_time()
            keeps = keeps_ties(10, (), network)
            self.assertEqual(kept_gates(10, (), network) == len(network), keeps)
            if keeps:
                self.assert_keeps(10, (), network)
            else:
                self.assert_paper(10, (), network)
                clean_word(10, (), network)
            self.assertLess(time.process_time() - began, 3)
