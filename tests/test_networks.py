"""[B1], [B2] and [B3], and what [A3] says of them."""

import random

from tests.anyvalues import any_values, nested
from tests.same import SameTest
from tests.samples import LINES, all_pairs, drawn_networks
from tieskept import networks
from tieskept.bounds import MAX_GATES
from tieskept.networks import joined, mirrored, network_error


def slow_network_error(n, value):
    """What network_error tells, by how Python writes the items: so no bool is an integer, no list a tuple."""
    if repr(value)[0] != "(" or len(value) > 1000:
        return "form"
    gates = {repr(pair) for pair in all_pairs(n)}
    wrong = [spot for spot, item in enumerate(value) if repr(item) not in gates]
    return ("gate", wrong[0]) if wrong else None


def not_gates(n):
    """Return pairs of integers that are no gates of n."""
    wrong = [(1, 0), (n - 1, 0), (n - 1, n - 2), (0, 0), (1, 1), (n - 1, n - 1), (-1, 0), (-1, 1), (-2, -1), (0, -1)]
    return wrong + [(0, n), (n - 1, n), (n, n), (n, n + 1), (n, 0), (0, 10 ** 399), (-10 ** 399, 1)]


class NetworkErrorTest(SameTest):
    def test_networks_of_all_sorts_have_no_error(self):
        for n in LINES:
            for network in drawn_networks(n, 1):
                self.assertIsNone(network_error(n, network), (n, network))
            for pair in all_pairs(n):
                self.assertIsNone(network_error(n, (pair,)), (n, pair))

    def test_1000_gates_and_no_more(self):
        for n in LINES:
            pairs = all_pairs(n)
            network = (pairs * 1001)[:1001]
            self.assert_same(network_error(n, network), "form", n)
            self.assertIsNone(network_error(n, network[1:]), n)
            self.assert_same(network_error(n, network[:999] + ((1, 0),)), ("gate", 999), n)
            # That they are too many is told ahead of what they are.
            self.assert_same(network_error(n, (None,) * 1001), "form", n)
            self.assert_same(network_error(n, (None,) * 1000), ("gate", 0), n)
            self.assert_same(network_error(n, (0,) * 4000), "form", n)

    def test_what_is_no_tuple_has_no_form(self):
        values = [value for value in any_values() if not isinstance(value, tuple)]
        values += [[(0, 1)], [], {(0, 1): (0, 1)}, "((0, 1),)", "0-1", "none", [()], [(1, 0)] * 1001]
        for n in (2, 3, 24):
            for value in values:
                self.assert_same(network_error(n, value), "form", n, value)

    def test_items_that_are_no_tuples_of_two(self):
        for item in [*any_values(), (0,), (0, 1, 2), [0, 1], "01", {0: 1, 1: 2}, ((0, 1), (0, 1)), ((0, 1),), ()]:
            if type(item) is not tuple or item != (0, 1):
                self.assert_same(network_error(3, (item,)), ("gate", 0), item)
                self.assert_same(network_error(3, ((0, 1), (1, 2), item)), ("gate", 2), item)
                self.assert_same(network_error(3, ((0, 1), item, item)), ("gate", 1), item)

    def test_gates_of_what_are_no_integers(self):
        for wrong in any_values():
            if type(wrong) is not int:
                for item in ((wrong, 1), (0, wrong), (wrong, 2), (wrong, wrong)):
                    self.assert_same(network_error(3, ((0, 1), item)), ("gate", 1), item)
        for item in ((False, 1), (0, True), (False, True), (True, 2), (1, True)):
            for n in (2, 3, 24):
                self.assert_same(network_error(n, (item,)), ("gate", 0), n, item)

    def test_gates_turned_about_of_one_line_twice_and_beyond_the_lines(self):
        for n in LINES:
            for item in not_gates(n):
                self.assert_same(network_error(n, (item,)), ("gate", 0), n, item)
                self.assert_same(network_error(n, ((0, 1), item, (0, 1))), ("gate", 1), n, item)

    def test_lines_decide_which_gates_are_right(self):
        for n in LINES:
            for most in LINES:
                told = None if most <= n else ("gate", 1)
                self.assert_same(network_error(n, ((0, 1), (most - 2, most - 1))), told, n, most)

    def test_the_first_of_several_wrong_ones(self):
        draw = random.Random(2)
        for n in LINES:
            wrong = [*not_gates(n), None, [0, 1], (0, True), (0,), "01", ((0, 1),)]
            for network in drawn_networks(n, 3):
                value = list(network)
                for _ in range(draw.randrange(1, 5)):
                    value.insert(draw.randrange(len(value) + 1), draw.choice(wrong))
                value = tuple(value)
                self.assert_same(network_error(n, value), slow_network_error(n, value), n, value)

    def test_values_nested_within_one_another(self):
        for depth in range(1, 20):
            for inner in ((0, 1), ((0, 1),), (), [], 0, True):
                value = nested(inner, depth)
                self.assert_same(network_error(3, value), slow_network_error(3, value), value)
                self.assert_same(network_error(3, ((0, 1), value)), slow_network_error(3, ((0, 1), value)), value)

    def test_any_values(self):
        for n in LINES:
            for value in any_values():
                self.assert_same(network_error(n, value), slow_network_error(n, value), n, value)


class MirroredTest(SameTest):
    def test_each_gate_is_turned_about_in_its_place(self):
        for n in LINES:
            for network in drawn_networks(n, 4):
                turned = mirrored(n, network)
                self.assertIs(type(turned), tuple)
                self.assertEqual(len(turned), len(network))
                for gate, (i, j) in zip(turned, network):
                    self.assert_same(gate, (n - 1 - j, n - 1 - i), n, i, j)

    def test_mirrored_twice(self):
        for n in LINES:
            for network in drawn_networks(n, 5):
                self.assertIsNone(network_error(n, mirrored(n, network)))
                self.assert_same(mirrored(n, mirrored(n, network)), network, n)
            self.assert_same(mirrored(n, ()), ())
            self.assert_same(mirrored(n, ((0, 1),) * 1000), ((n - 2, n - 1),) * 1000)


class JoinedTest(SameTest):
    def test_by_from_0_to_24(self):
        for n in LINES:
            for one in drawn_networks(n, 6)[:6]:
                for other in drawn_networks(n, 7)[:12]:
                    for by in range(25):
                        self.check(n, one, other, by)

    def test_other_on_few_lines(self):
        for n in LINES:
            for lines in range(2, n + 1):
                for other in drawn_networks(lines, 8)[:12]:
                    for by in (0, 1, n - lines, n - lines + 1, n - 1, n):
                        self.check(n, ((0, n - 1),), other, by)

    def check(self, n, one, other, by):
        told = one + tuple((i + by, j + by) for i, j in other)
        if other and max(j for i, j in other) + by >= n:
            self.assert_raises("Unfit()", joined, n, one, other, by)
        else:
            self.assert_same(joined(n, one, other, by), told, n, one, other, by)

    def test_unfit_where_one_gate_alone_lies_beyond_the_lines(self):
        self.assert_raises("Unfit()", joined, 4, (), ((0, 1), (0, 2), (0, 1)), 2)
        self.assert_raises("Unfit()", joined, 4, (), ((0, 3), (0, 1)), 1)
        self.assert_raises("Unfit()", joined, 24, ((0, 1),), ((22, 23),), 1)
        self.assert_raises("Unfit()", joined, 2, (), ((0, 1),), 24)
        self.assert_same(joined(24, ((0, 1),), ((0, 1),), 22), ((0, 1), (22, 23)))

    def test_1000_gates_and_no_more(self):
        for n in (2, 3, 24):
            network = (all_pairs(n) * 1000)[:MAX_GATES]
            for many in (0, 1, 2, 500, 999, 1000):
                self.assert_same(joined(n, network[:many], network[many:], 0), network, many)
                for more in ((many, 1001 - many), (1000, many + 1), (many + 1, 1000)):
                    if more[1] <= 1000 and more[0] <= 1000:
                        self.assert_raises("TooMany(1000)", joined, n, network[:more[0]], network[:more[1]], 0)
        self.assert_raises("TooMany(1000)", joined, 3, ((0, 1),), ((0, 1),) * 1000, 1)
        self.assert_same(joined(3, ((0, 1),), ((0, 1),) * 999, 1), ((0, 1),) + ((1, 2),) * 999)

    def test_unfit_is_told_ahead_of_too_many(self):
        for n in (2, 3, 24):
            self.assert_raises("Unfit()", joined, n, ((0, 1),) * 1000, ((0, n - 1),), 1)
            self.assert_raises("Unfit()", joined, n, ((0, 1),), ((0, 1),) * 999 + ((0, n - 1),), 1)
            self.assert_raises("Unfit()", joined, n, ((0, 1),) * 1000, ((0, 1),) * 1000, 24)

    def test_empty_networks(self):
        for n in LINES:
            for network in drawn_networks(n, 9):
                self.assert_same(joined(n, network, (), 0), network)
                self.assert_same(joined(n, network, (), 24), network)
                self.assert_same(joined(n, (), network, 0), network)
            for by in range(25):
                self.assert_same(joined(n, (), (), by), ())


class CallsTest(SameTest):
    def test_calls_by_place_and_by_name(self):
        for value in any_values():
            self.assert_calls(network_error, n=3, value=value)
            self.assert_calls(network_error, n=3, value=((0, 1), value))
        for network in drawn_networks(5, 10):
            self.assert_calls(mirrored, n=5, network=network)
            for by in (0, 1, 24):
                self.assert_calls(joined, n=5, one=network, other=((0, 3),), by=by)
        self.assert_calls(joined, n=5, one=((0, 1),) * 1000, other=((0, 3),), by=1)

    def test_the_functions_are_defined_in_their_file(self):
        self.assert_defined(networks, "network_error", "mirrored", "joined")
