"""[F1], [F2] and [F3], and what [F7] and [F8] say of them."""

import functools
import itertools
import random
import time

from tests.same import SameTest
from tests.samples import (
    LINES, WORDY, all_networks, all_pairs, drawn_networks, slow_first_far, slow_paper_holds, slow_run, sorter,
    turned_bits,
)
from tieskept import images
from tieskept.images import all_paper, image, keeps_all, kept_all_gates
from tieskept.live import unsorted_word
from tieskept.ties import keeps_ties, kept_gates, paper_holds


def descending(n):
    return tuple(n - line for line in range(n))


def slow_kept_all(n, network):
    """How many gates stand ahead of the first far one that exchanges on the descending row."""
    spots = slow_run(network, descending(n))[2]
    return min((spot for spot in spots if network[spot][1] - network[spot][0] > 1), default=len(network))


@functools.lru_cache(maxsize=None)
def behind_near_gates(seed, many):
    """Return networks of near gates, and of far gates that are idle behind them, with a last far gate at work."""
    found = []
    for n in LINES:
        draw = random.Random(seed * 100 + n)
        near = [(k, k + 1) for k in range(n - 1)]
        far = [(i, j) for i, j in all_pairs(n) if j > i + 1]
        for _ in range(many if far else 0):
            network = tuple(draw.choices(near, k=draw.randrange(n * n)))
            for gate in draw.sample(far, min(8, len(far))):
                if slow_kept_all(n, network + (gate,)) > len(network):
                    network = network + (gate,) + tuple(draw.choices(near, k=draw.randrange(4)))
                else:
                    behind = tuple(draw.choices(all_pairs(n), k=draw.randrange(20)))
                    found.append((n, network, network + (gate,) + behind))
    return found


class ImagesCase(SameTest):
    def assert_paper(self, n, network):
        value = all_paper(n, network)
        self.assertTrue(slow_paper_holds(n, (), network, value), (n, network, value))
        self.assert_same(paper_holds(n, (), network, value), True, n, network, value)

    def assert_kept(self, n, network, many):
        self.assert_same(kept_all_gates(n, network), many, n, network)
        self.assert_same(keeps_all(n, network), many == len(network), n, network)
        if many == len(network):
            self.assert_raises("Unfit()", all_paper, n, network)
        else:
            self.assert_paper(n, network)


class ImageTest(ImagesCase):
    def test_networks_of_all_sorts(self):
        for n in LINES:
            for network in drawn_networks(n, 1):
                told = slow_run(network, descending(n))[0]
                self.assert_same(image(n, network), told, n, network)
                self.assertEqual(sorted(told), list(range(1, n + 1)))

    def test_no_gates_sorters_and_1000_gates(self):
        for n in LINES:
            self.assert_same(image(n, ()), descending(n))
            self.assert_same(image(n, sorter(n)), tuple(range(1, n + 1)))
            self.assert_same(image(n, ((0, 1),) * 1000), (n - 1, n) + descending(n)[2:])
            network = tuple(random.Random(n).choices(all_pairs(n), k=1000))
            self.assert_same(image(n, network), slow_run(network, descending(n))[0])


class KeepsAllTest(ImagesCase):
    def test_networks_of_all_sorts_to_24_lines(self):
        for n in LINES:
            for network in drawn_networks(n, 2):
                self.assert_kept(n, network, slow_kept_all(n, network))

    def test_all_networks_of_few_gates_by_all_rows(self):
        for n, most in ((2, 5), (3, 5), (4, 3)):
            for network in all_networks(n, most):
                many = 0
                while many < len(network) and not turned_bits(n, network[:many + 1]):
                    many += 1
                self.assert_kept(n, network, many)

    def test_all_networks_of_five_lines_and_three_gates(self):
        for network in all_networks(5, 3):
            self.assert_kept(5, network, slow_kept_all(5, network))

    def test_far_gates_alone_and_behind_sorters(self):
        for n in LINES:
            for i, j in all_pairs(n):
                self.assert_kept(n, ((i, j),), 0 if j > i + 1 else 1)
            far = tuple(pair for pair in all_pairs(n) if pair[1] > pair[0] + 1)
            self.assert_kept(n, sorter(n) + far, len(sorter(n) + far))
            pass_on = tuple((k, k + 1) for k in range(n - 1))
            if n > 3:
                self.assert_kept(n, pass_on + ((0, n - 1), (1, n - 1), (0, n - 2)), n + 1)

    def test_1000_gates(self):
        for n in (2, 3, 4, 10, 23, 24):
            draw = random.Random(n)
            near = tuple(draw.choices([(k, k + 1) for k in range(n - 1)], k=1000))
            self.assert_kept(n, near, 1000)
            if n > 2:
                # No gate ahead of the last one has the last line.
                few = tuple(draw.choices([(k, k + 1) for k in range(n - 2)], k=999))
                self.assert_kept(n, few + ((0, n - 1),), 999)
                self.assert_kept(n, ((0, n - 1),) + few, 0)


class AllPaperTest(ImagesCase):
    def test_far_gates_behind_near_ones_of_all_sorts(self):
        many = 0
        for n, network, longer in behind_near_gates(3, 6):
            self.assert_kept(n, network, len(network))
            self.assert_kept(n, longer, len(network))
            many += 1
        self.assertGreater(many, 500)

    def test_each_far_gate_behind_each_network_of_near_gates(self):
        for n in (3, 4, 5):
            found = {descending(n): ()}
            ways = [descending(n)]
            while ways:
                keys = ways.pop()
                for k in range(n - 1):
                    if keys[k] > keys[k + 1]:
                        more = keys[:k] + (keys[k + 1], keys[k]) + keys[k + 2:]
                        if more not in found:
                            found[more] = found[keys] + ((k, k + 1),)
                            ways.append(more)
            self.assertEqual(len(found), len(list(itertools.permutations(range(n)))))
            for keys, network in found.items():
                self.assert_same(image(n, network), keys)
                for i, j in all_pairs(n):
                    if j > i + 1:
                        many = len(network) + (keys[i] < keys[j])
                        self.assert_kept(n, network + ((i, j),), many)
                        if keys[i] > keys[j]:
                            for behind in (sorter(n), all_pairs(n)[::-1]):
                                self.assert_kept(n, network + ((i, j),) + behind, many)

    def test_24_lines(self):
        for i, j in all_pairs(24):
            if j > i + 1:
                for network in (((i, j),), tuple((k, k + 1) for k in range(i)) + ((i, j),)):
                    self.assert_paper(24, network)

    def test_the_only_papers_of_leap_and_late(self):
        self.assertIn(all_paper(3, ((0, 2),)), [((1, 1, 0), 0, 1), ((1, 0, 0), 1, 2)])
        self.assert_same(all_paper(3, ((0, 1), (0, 2), (1, 2))), ((1, 1, 0), 0, 1))


class WhatHoldsTest(ImagesCase):
    def test_it_is_what_is_told_of_ties_without_told_orders(self):
        for n in WORDY:
            for network in drawn_networks(n, 4):
                self.assert_same(keeps_all(n, network), keeps_ties(n, (), network), n, network)
                self.assert_same(kept_all_gates(n, network), kept_gates(n, (), network), n, network)
                told = slow_first_far(n, (), network)
                self.assert_same(kept_all_gates(n, network), len(network) if told is None else told, n, network)

    def test_so_many_first_gates_keep_ties_and_one_more_does_not(self):
        for n in LINES:
            for network in drawn_networks(n, 5):
                many = kept_all_gates(n, network)
                self.assert_same(keeps_all(n, network[:many]), True)
                if many < len(network):
                    self.assert_same(keeps_all(n, network[:many + 1]), False)

    def test_networks_that_keep_ties_do_the_same_exactly_if_they_have_one_image(self):
        for n, most in ((2, 3), (3, 4), (4, 3)):
            rows = list(itertools.product(range(3), repeat=n))
            behaviours, images_told = {}, {}
            for network in all_networks(n, most):
                if keeps_all(n, network):
                    came_from = tuple(slow_run(network, row)[1] for row in rows)
                    self.assertEqual(behaviours.setdefault(image(n, network), came_from), came_from, network)
                    self.assertEqual(images_told.setdefault(came_from, image(n, network)), image(n, network))
            self.assertEqual(len(behaviours), len(images_told))

    def test_a_network_that_keeps_ties_sorts_exactly_if_its_image_ascends(self):
        for n in WORDY:
            ascending = tuple(range(1, n + 1))
            for network in (*drawn_networks(n, 6, 60), sorter(n)[1:], sorter(n)[:-1], sorter(n)[::-1]):
                if keeps_all(n, network):
                    told = unsorted_word(n, (), network) is None
                    self.assertEqual(image(n, network) == ascending, told, (n, network))
        # Where ties are not kept that is not so: leap has the image of a sorter.
        self.assert_same(image(3, ((0, 2),)), (1, 2, 3))
        self.assert_same(unsorted_word(3, (), ((0, 2),)) is None, False)

    def test_a_gate_may_be_left_out_exactly_if_ties_are_kept_and_the_image_stays(self):
        for n, most in ((3, 4), (4, 3)):
            rows = list(itertools.product(range(3), repeat=n))
            for network in all_networks(n, most)[::3]:
                if keeps_all(n, network):
                    came_from = [slow_run(network, row)[1] for row in rows]
                    for spot in range(len(network)):
                        less = network[:spot] + network[spot + 1:]
                        same = [slow_run(less, row)[1] for row in rows] == came_from
                        told = keeps_all(n, less) and image(n, less) == image(n, network)
                        self.assertEqual(told, same, (n, network, spot))


class CallsTest(ImagesCase):
    def test_calls_by_place_and_by_name(self):
        for n in LINES:
            for network in drawn_networks(n, 7)[::4]:
                for function in (image, keeps_all, kept_all_gates, all_paper):
                    self.assert_calls(function, n=n, network=network)

    def test_the_functions_are_defined_in_their_file(self):
        self.assert_defined(images, "image", "keeps_all", "kept_all_gates", "all_paper")

    def test_24_lines_and_1000_gates_take_no_long_time(self):
        near = tuple((k, k + 1) for k in range(22))
        network = (near * 50)[:999] + ((0, 23),)
        began = time.process_time()
        self.assert_paper(24, network)
        self.assert_same(keeps_all(24, network), False)
        self.assertLess(time.process_time() - began, 2)
