"""[E1], [E2], [E3] and [E4], and what [E5] says of them."""

import functools
import itertools
import random
import time

from tests.anyvalues import any_values
from tests.same import SameTest
from tests.samples import (
    all_networks, all_orders, all_pairs, drawn_networks, drawn_orders, drawn_rows, slow_lets, slow_run, slow_turns,
    sorter,
)
from tieskept import tags
from tieskept.live import unsorted_word
from tieskept.networks import mirrored
from tieskept.runs import came
from tieskept.tags import border_paper, least_tags, tagged_came, tags_hold, turned_in
from tieskept.ties import keeps_ties, passing

TAGGED = range(2, 8)


def all_starts(n):
    """Return all starts for n places."""
    return [(0, *more) for many in range(n) for more in itertools.combinations(range(1, n), many)]


def all_stretches(n):
    return [(first, last) for first in range(n) for last in range(first, n)]


def slow_tags(n, starts):
    """The tags of the places, found by going along them."""
    found, tag = [], -1
    for place in range(n):
        if place in starts:
            tag += 1
        found.append(tag)
    return found


def slow_tagged(starts, network, row):
    """The places from which the things come, told by the things themselves: their keys, places and tags."""
    tagged = slow_tags(len(row), starts)
    things = [{"key": key, "place": place, "tag": tagged[place]} for place, key in enumerate(row)]
    for i, j in network:
        one, other = things[i], things[j]
        if one["key"] > other["key"] or one["key"] == other["key"] and one["tag"] > other["tag"]:
            things[i], things[j] = other, one
    return tuple(thing["place"] for thing in things)


@functools.lru_cache(maxsize=None)
def one_turns(n, network):
    """Return the rows of 0, 1 and 2 with the places of their ones and the pairs of these that are turned."""
    found = []
    for row in itertools.product((0, 1, 2), repeat=n):
        turned = [(p, q) for p, q in slow_turns(network, row) if row[p] == 1]
        if turned:
            found.append((row, {place for place in range(n) if row[place] == 1}, turned))
    return found


def slow_all_turns(n, order, network, first, last):
    """All turns in the stretch."""
    stretch = set(range(first, last + 1))
    return [
        (row, p, q) for row, ones, turned in one_turns(n, network) if ones <= stretch and slow_lets(order, row)
        for p, q in turned
    ]


def slow_good(n, order, network, first, last):
    return not slow_all_turns(n, order, network, first, last)


def slow_starts(n, order, network):
    """The starts of the longest good stretches, each found from its longest one down."""
    starts = [0]
    while True:
        last = max(last for last in range(starts[-1], n) if slow_good(n, order, network, starts[-1], last))
        if last == n - 1:
            return tuple(starts)
        starts.append(last + 1)


def slow_hold(n, order, network, starts, keys):
    """Whether starts hold, by all let rows of so many keys: told by the things that bear equal keys and tags."""
    tagged = slow_tags(n, starts)
    for row in itertools.product(range(keys), repeat=n):
        if slow_lets(order, row):
            places = slow_tagged(starts, network, row)
            for p, q in all_pairs(n):
                if row[p] == row[q] and tagged[p] == tagged[q] and places.index(q) < places.index(p):
                    return False
    return True


@functools.lru_cache(maxsize=None)
def cases(seed, most=7):
    """Return lines, orders and networks of all sorts: each network with no order and with others."""
    found = []
    for n in range(2, most + 1):
        draw = random.Random(seed * 100 + n)
        orders = drawn_orders(n, seed)
        for network in drawn_networks(n, seed, 14):
            for order in ((), *draw.sample(orders, 2)):
                found.append((n, order, network))
    return found


class TagsCase(SameTest):
    def assert_turn(self, n, order, network, first, last, value):
        """The value is a turn in the stretch."""
        self.assertEqual((type(value), len(value)), (tuple, 3))
        row, p, q = value
        self.assertEqual((type(row), len(row), type(p), type(q)), (tuple, n, int, int))
        self.assertEqual([type(key) for key in row], [int] * n)
        self.assertLessEqual(set(row), {0, 1, 2})
        self.assertTrue(slow_lets(order, row), (order, row))
        self.assertTrue(all(first <= place <= last for place in range(n) if row[place] == 1), (first, last, row))
        self.assertTrue(first <= p < q <= last and row[p] == row[q] == 1, (first, last, value))
        self.assertIn((p, q), slow_turns(network, row), (n, order, network))


class TaggedCameTest(TagsCase):
    def test_networks_rows_and_starts_of_all_sorts(self):
        for n in TAGGED:
            draw = random.Random(n)
            for network in drawn_networks(n, 1):
                for row in drawn_rows(n, 1):
                    for starts in ((0,), tuple(range(n)), *draw.sample(all_starts(n), min(3, 2 ** (n - 1)))):
                        told = slow_tagged(starts, network, row)
                        self.assert_same(tagged_came(starts, network, row), told, starts, network, row)

    def test_all_rows_of_few_keys_and_all_starts_to_four_lines(self):
        for n in (2, 3, 4):
            for network in drawn_networks(n, 2, 10)[::2]:
                for row in itertools.product((-1, 0, 1), repeat=n):
                    for starts in all_starts(n):
                        told = slow_tagged(starts, network, row)
                        self.assert_same(tagged_came(starts, network, row), told, starts, network, row)

    def test_one_tag_does_nothing(self):
        for n in TAGGED:
            for network in drawn_networks(n, 3):
                for row in drawn_rows(n, 3):
                    self.assert_same(tagged_came((0,), network, row), came(network, row))

    def test_rows_of_one_key_stay(self):
        for n in TAGGED:
            for starts in all_starts(n):
                for network in drawn_networks(n, 4)[::3]:
                    for key in (0, -10 ** 12, 10 ** 12):
                        self.assert_same(tagged_came(starts, network, (key,) * n), tuple(range(n)))

    def test_with_all_tags_a_sorter_sorts_by_keys_and_then_by_places(self):
        for n in TAGGED:
            for network in (sorter(n), all_pairs(n)):
                for row in drawn_rows(n, 5):
                    told = tuple(sorted(range(n), key=lambda place: (row[place], place)))
                    self.assert_same(tagged_came(tuple(range(n)), network, row), told, network, row)

    def test_the_greater_tag_is_exchanged_and_the_lesser_one_is_not(self):
        back = ((0, 1), (1, 2), (0, 1))
        self.assert_same(tagged_came((0, 1, 2), ((0, 2),) + back[:1], (5, 5, 3)), (2, 1, 0))
        self.assert_same(tagged_came((0, 1, 2), ((0, 2), (1, 2)), (5, 5, 3)), (2, 0, 1))
        self.assert_same(tagged_came((0, 2), ((0, 2), (1, 2)), (5, 5, 3)), (2, 1, 0))
        self.assert_same(tagged_came((0, 1), ((0, 2), (1, 2)), (5, 5, 3)), (2, 0, 1))
        self.assert_same(tagged_came((0, 1, 2), back, (7, 7, 7)), (0, 1, 2))

    def test_1000_gates_and_none(self):
        for n in TAGGED:
            network = tuple(random.Random(n).choices(all_pairs(n), k=1000))
            for row in drawn_rows(n, 6):
                for starts in ((0,), tuple(range(n)), (0, n - 1)):
                    self.assert_same(tagged_came(starts, network, row), slow_tagged(starts, network, row))
                    self.assert_same(tagged_came(starts, (), row), tuple(range(n)))


class TurnedInTest(TagsCase):
    def check(self, n, order, network, first, last):
        value = turned_in(n, order, network, first, last)
        if value is None:
            self.assertTrue(slow_good(n, order, network, first, last), (n, order, network, first, last))
        else:
            self.assert_turn(n, order, network, first, last, value)

    def test_all_stretches_of_networks_and_orders_of_all_sorts(self):
        for n, order, network in cases(1, 6):
            for first, last in all_stretches(n):
                self.check(n, order, network, first, last)

    def test_seven_lines(self):
        draw = random.Random(2)
        for network in drawn_networks(7, 2, 10)[::3]:
            for order in ((), *draw.sample(drawn_orders(7, 2), 2)):
                for first, last in ((0, 6), (0, 0), (6, 6), (5, 6), (0, 1), *draw.sample(all_stretches(7), 3)):
                    self.check(7, order, network, first, last)

    def test_all_networks_and_orders_of_three_lines_and_few_gates(self):
        for n, most in ((2, 3), (3, 3)):
            for network in all_networks(n, most):
                for order in all_orders(n):
                    for first, last in all_stretches(n):
                        self.check(n, order, network, first, last)

    def test_all_networks_of_four_lines_and_two_gates(self):
        for network in all_networks(4, 2):
            for order in all_orders(4)[::7]:
                for first, last in all_stretches(4):
                    self.check(4, order, network, first, last)

    def test_one_place_alone_is_good(self):
        for n in TAGGED:
            for network in drawn_networks(n, 3):
                for place in range(n):
                    self.assert_same(turned_in(n, (), network, place, place), None)

    def test_networks_of_near_gates_have_good_stretches_alone(self):
        for n in TAGGED:
            for order in drawn_orders(n, 4)[::5]:
                for network in ((), sorter(n), ((0, 1),) * 1000):
                    for first, last in all_stretches(n):
                        self.assert_same(turned_in(n, order, network, first, last), None)

    def test_a_two_is_needed_behind_and_a_nought_ahead(self):
        self.assert_same(turned_in(3, (), ((0, 2),), 0, 1), ((1, 1, 0), 0, 1))
        self.assert_same(turned_in(3, (), ((0, 2),), 1, 2), ((2, 1, 1), 1, 2))
        self.assert_same(turned_in(3, ((0, 1),), ((0, 2),), 1, 2), None)
        self.assert_same(turned_in(3, ((1, 2),), ((0, 2),), 0, 1), None)
        self.assert_same(turned_in(3, ((0, 2),), ((0, 2),), 0, 2), None)

    def test_1000_gates(self):
        for n in (3, 5, 7):
            network = tuple(random.Random(n).choices(all_pairs(n), k=1000))
            late = ((0, 1),) * 999 + ((1, n - 1),)
            for told in (network, late) if n < 7 else (late,):
                self.check(n, (), told, 0, n - 1)
                self.check(n, ((1, n - 1),), told, 0, n - 1)


class LeastTagsTest(TagsCase):
    def check(self, n, order, network):
        starts = least_tags(n, order, network)
        self.assert_same(starts, slow_starts(n, order, network), n, order, network)
        for index in range(1, len(starts)):
            value = border_paper(n, order, network, index)
            self.assert_turn(n, order, network, starts[index - 1], starts[index], value)
        for index in (0, -1, len(starts), len(starts) + 1, True, False, None, 10 ** 399):
            self.assert_raises("Unfit()", border_paper, n, order, network, index)

    def test_networks_and_orders_of_all_sorts(self):
        for n, order, network in cases(3, 6):
            self.check(n, order, network)

    def test_seven_lines(self):
        draw = random.Random(5)
        for network in drawn_networks(7, 5, 10)[::4]:
            for order in ((), *draw.sample(drawn_orders(7, 5), 2)):
                self.check(7, order, network)

    def test_all_networks_and_orders_of_three_lines_and_few_gates(self):
        for n, most in ((2, 3), (3, 3)):
            for network in all_networks(n, most):
                for order in all_orders(n):
                    self.check(n, order, network)

    def test_all_networks_of_four_lines_and_two_gates(self):
        for network in all_networks(4, 2):
            for order in all_orders(4)[::9]:
                self.check(4, order, network)

    def test_one_far_gate_parts_its_lines_from_those_between(self):
        for n in range(3, 8):
            for i, j in all_pairs(n):
                if j > i + 1:
                    self.assert_same(least_tags(n, (), ((i, j),)), (0, i + 1, j), n)
                    self.assert_same(least_tags(n, ((i, j),), ((i, j),)), (0,))

    def test_networks_of_no_gate_and_of_two_lines(self):
        for n in TAGGED:
            for order in drawn_orders(n, 6):
                self.assert_same(least_tags(n, order, ()), (0,))
        for order in ((), ((0, 1),)):
            self.assert_same(least_tags(2, order, ((0, 1),) * 1000), (0,))

    def test_border_paper_of_values_of_all_sorts(self):
        three = ((0, 2), (0, 1), (1, 2))
        for value in any_values():
            if type(value) is int and value in (1, 2):
                told = {1: ((1, 1, 0), 0, 1), 2: ((2, 1, 1), 1, 2)}[value]
                self.assert_same(border_paper(3, (), three, value), told)
            else:
                self.assert_raises("Unfit()", border_paper, 3, (), three, value)
            self.assert_raises("Unfit()", border_paper, 3, (), ((0, 1),), value)
            self.assert_raises("Unfit()", border_paper, 3, ((0, 2),), three, value)


class TagsHoldTest(TagsCase):
    def test_all_starts_by_all_let_rows_to_four_lines(self):
        for n in (2, 3, 4):
            draw = random.Random(n)
            for network in drawn_networks(n, 7, 8):
                for order in ((), *draw.sample(all_orders(n), min(2, len(all_orders(n))))):
                    for starts in all_starts(n):
                        told = slow_hold(n, order, network, starts, 3)
                        self.assert_same(tags_hold(n, order, network, starts), told, n, order, network, starts)

    def test_all_networks_and_orders_of_three_lines_by_rows_of_four_keys(self):
        for network in all_networks(3, 2):
            for order in all_orders(3):
                for starts in all_starts(3):
                    told = slow_hold(3, order, network, starts, 4)
                    self.assert_same(tags_hold(3, order, network, starts), told, order, network, starts)

    def test_five_lines_by_all_rows_of_three_keys(self):
        draw = random.Random(8)
        for network in drawn_networks(5, 8, 8)[::2]:
            for starts in draw.sample(all_starts(5), 3):
                order = draw.choice(drawn_orders(5, 8))
                told = slow_hold(5, order, network, starts, 3)
                self.assert_same(tags_hold(5, order, network, starts), told, order, network, starts)

    def test_starts_hold_exactly_if_each_of_their_stretches_is_good(self):
        draw = random.Random(9)
        found = {True: 0, False: 0}
        for n, order, network in cases(9):
            good = {
                (first, last) for first, last in all_stretches(n)
                if turned_in(n, order, network, first, last) is None
            }
            for first, last in good:
                self.assertTrue(first == last or {(first + 1, last), (first, last - 1)} <= good)
            least = least_tags(n, order, network)
            for starts in (least, least[:-1], *draw.sample(all_starts(n), min(6, 2 ** (n - 1)))):
                if starts:
                    stretches = zip(starts, [start - 1 for start in starts[1:]] + [n - 1])
                    holds = all(stretch in good for stretch in stretches)
                    self.assert_same(tags_hold(n, order, network, starts), holds, n, order, network, starts)
                    self.assertFalse(holds and len(starts) < len(least))
                    found[holds] += 1
        self.assertGreater(min(found.values()), 100)

    def test_tags_for_all_places_always_hold(self):
        for n, order, network in cases(10):
            self.assert_same(tags_hold(n, order, network, tuple(range(n))), True)


class WhatHoldsTest(TagsCase):
    def test_no_starts_that_hold_are_fewer(self):
        for n, order, network in cases(11, 5)[::2]:
            least = least_tags(n, order, network)
            holding = [starts for starts in all_starts(n) if tags_hold(n, order, network, starts)]
            self.assertIn(least, holding)
            self.assertEqual(min(len(starts) for starts in holding), len(least), (n, order, network))

    def test_one_tag_exactly_if_ties_are_kept(self):
        for n, order, network in cases(12):
            keeps = keeps_ties(n, order, network)
            self.assertEqual(least_tags(n, order, network) == (0,), keeps, (n, order, network))
            self.assertEqual(turned_in(n, order, network, 0, n - 1) is None, keeps)
            if not keeps:
                word, p, q = passing(n, order, network)
                row = word if word[p] == 1 else tuple(1 if item == 0 else 2 for item in word)
                self.assert_turn(n, order, network, 0, n - 1, (row, p, q))

    def test_where_all_is_sorted_tags_that_hold_leave_equal_keys_in_order(self):
        for n in (2, 3, 4, 5):
            for network in (sorter(n), all_pairs(n), all_pairs(n) * 2, mirrored(n, all_pairs(n))):
                for order in drawn_orders(n, 13)[::4]:
                    self.assertIsNone(unsorted_word(n, order, network))
                    for starts in all_starts(n):
                        if tags_hold(n, order, network, starts):
                            for row in itertools.product(range(3), repeat=n):
                                if slow_lets(order, row):
                                    told = tuple(sorted(range(n), key=lambda place: row[place]))
                                    self.assert_same(tagged_came(starts, network, row), told, network, starts, row)

    def test_mirrored_networks_need_as_many(self):
        for n, order, network in cases(14):
            backwards = tuple(sorted((n - 1 - q, n - 1 - p) for p, q in order))
            many = len(least_tags(n, backwards, mirrored(n, network)))
            self.assertEqual(many, len(least_tags(n, order, network)), (n, order, network))

    def test_a_pair_more_never_asks_for_more_tags(self):
        draw = random.Random(15)
        for n, order, network in cases(15):
            more = tuple(sorted({*order, *draw.choices(all_pairs(n), k=2)}))
            self.assertLessEqual(len(least_tags(n, more, network)), len(least_tags(n, order, network)))

    def test_a_turn_is_turned_with_tags_too(self):
        for n, order, network in cases(16):
            least = least_tags(n, order, network)
            for index in range(1, len(least)):
                row, p, q = border_paper(n, order, network, index)
                # One tag for the whole stretch leaves the turn as it is without tags.
                places = tagged_came(tuple(sorted({0, least[index - 1]})), network, row)
                self.assertLess(places.index(q), places.index(p))


class CallsTest(TagsCase):
    def test_calls_by_place_and_by_name(self):
        for n, order, network in cases(17, 6)[::7]:
            self.assert_calls(turned_in, n=n, order=order, network=network, first=0, last=n - 1)
            self.assert_calls(least_tags, n=n, order=order, network=network)
            self.assert_calls(tags_hold, n=n, order=order, network=network, starts=(0, n - 1))
            self.assert_calls(tagged_came, starts=(0, 1), network=network, row=(3,) * (n - 1) + (2,))
            for value in (1, 2, True, [network], {"a": order}):
                self.assert_calls(border_paper, n=n, order=order, network=network, value=value)

    def test_the_functions_are_defined_in_their_file(self):
        self.assert_defined(tags, "tagged_came", "turned_in", "least_tags", "border_paper", "tags_hold")

    def test_seven_lines_and_1000_gates_take_no_long_time(self):
        for network in ((all_pairs(7) * 48)[:1000], ((0, 1),) * 999 + ((0, 6),), ((0, 1), (1, 2)) * 500):
            began = time.process_time()
            starts = least_tags(7, (), network)
            for index in range(1, len(starts)):
                border_paper(7, (), network, index)
            self.assert_same(tags_hold(7, (), network, starts), True)
            self.assert_same(tags_hold(7, (), network, tuple(range(7))), True)
            self.assertLess(time.process_time() - began, 10)
