"""[B4], and what [A3] and [B7] say of it."""

import random
import re

from tests.anyvalues import any_values
from tests.same import SameTest, answer
from tests.samples import LINES, all_pairs, drawn_networks
from tieskept import networktexts
from tieskept.networktexts import network_text, read_network

NUMBER = r"(?:0|[1-9][0-9]*)"
GATES = re.compile(rf"{NUMBER}-{NUMBER}(?: {NUMBER}-{NUMBER})*\Z")


def slow_answer(n, value):
    """What read_network answers, as Python writes it."""
    if type(value) is not str:
        return "raises BadText()"
    if value == "none":
        return "()"
    # No line has more figures than two; Python reads no numbers of many thousand figures.
    if GATES.match(value) is None or value.count(" ") >= 1000 or re.search("[0-9]{3}", value):
        return "raises BadText()"
    gates = [tuple(int(number) for number in part.split("-")) for part in value.split(" ")]
    if all(0 <= i < j < n for i, j in gates):
        return repr(tuple(gates))
    return "raises BadText()"


class NetworkTextTest(SameTest):
    def test_the_text_of_each_gate(self):
        for i, j in all_pairs(24):
            self.assert_same(network_text(((i, j),)), str(i) + "-" + str(j))
            self.assert_same(network_text(((i, j), (0, 23), (i, j))), f"{i}-{j} 0-23 {i}-{j}")

    def test_the_texts_of_networks(self):
        self.assert_same(network_text(()), "none")
        for n in LINES:
            for network in drawn_networks(n, 1):
                told = ""
                for i, j in network:
                    told = told + " " + str(i) + "-" + str(j)
                self.assert_same(network_text(network), told[1:] or "none", n)

    def test_unlike_networks_have_unlike_texts(self):
        for n in LINES:
            found = {network_text(network): network for network in drawn_networks(n, 2)}
            self.assertEqual(len(found), len(set(drawn_networks(n, 2))))


class ReadNetworkTest(SameTest):
    def assert_bad(self, n, *values):
        for value in values:
            self.assert_raises("BadText()", read_network, n, value)

    def test_there_and_back_for_all_sizes(self):
        draw = random.Random(3)
        for size in range(1001):
            n = draw.choice(LINES)
            network = tuple(draw.choices(all_pairs(n), k=size))
            self.assert_same(read_network(n, network_text(network)), network)
        for n in LINES:
            for network in drawn_networks(n, 4):
                self.assert_same(read_network(n, network_text(network)), network, n)

    def test_none(self):
        for n in LINES:
            self.assert_same(read_network(n, "none"), ())
            self.assert_bad(n, "", " ", "None", "NONE", "none ", " none", "none none", "none 0-1", "0-1 none", "no")
            self.assert_bad(n, "none\n", "\nnone", "()", "0-1 none 0-1")

    def test_blanks_more_and_fewer(self):
        self.assert_bad(3, " 0-1", "0-1 ", "0-1  1-2", "0 -1", "0- 1", "0 - 1", "0-11-2", "0-1,1-2", "  ", "0-1 1-2 ")
        self.assert_bad(3, " 0-1 1-2", "0-1   1-2", "0-1-2", "0-1- 1-2", "0 1", "01", "0-1_1-2", "0-1\\n1-2")

    def test_noughts_ahead_and_signs(self):
        self.assert_bad(12, "00-1", "0-01", "00-01", "0-1 01-2", "0-011", "000-11", "0-1 1-02", "01-2")
        self.assert_bad(12, "-0-1", "+0-1", "0-+1", "0--1", "-1-0", "-1-1", "0-1 +1-2", "0-1 1--2", "--", "-", "-1")
        self.assert_bad(12, "0x0-0x1", "0.0-1", "0-1e0", "0_0-1", "1_0-11", "0-1_1", "a-b", "(0, 1)", "((0, 1),)")

    def test_line_feeds_and_other_signs(self):
        self.assert_bad(3, "0-1\n", "\n0-1", "0-1\n1-2", "0-1 \n1-2", "0-1\n 1-2", "0\n-1", "0-\n1", "0-1 1-2\n", "\n")
        self.assert_bad(3, "0-1;", "'0-1'", "0-1 1-2.", "0-1 #", "0:1", "0=1", "0~1", "0/1")

    def test_empty_parts(self):
        self.assert_bad(3, "", " ", "-", "0-", "-1", "0-1 -", "0-1 1-", "- 0-1", "-2 0-1", " - ", "0-1 ")

    def test_gates_turned_about_of_one_line_twice_and_beyond_the_lines(self):
        for n in LINES:
            for i in range(26):
                for j in range(26):
                    text = f"{i}-{j}"
                    told = repr(((i, j),)) if i < j < n else "raises BadText()"
                    self.assertEqual(answer(read_network, n, text), told, (n, text))
                    told = repr(((0, 1), (i, j))) if i < j < n else "raises BadText()"
                    self.assertEqual(answer(read_network, n, "0-1 " + text), told, (n, text))

    def test_1000_gates_and_no_more(self):
        for n in (2, 12, 24):
            gates = (all_pairs(n) * 1001)[:1001]
            text = " ".join(f"{i}-{j}" for i, j in gates)
            self.assert_bad(n, text)
            self.assert_same(read_network(n, text[text.index(" ") + 1:]), gates[1:])
            self.assert_bad(n, " ".join(["0-1"] * 999 + ["1-0"]), " ".join(["0-1"] * 1002), "0-1 " * 1000)

    def test_very_long_figures(self):
        for n in (2, 24):
            for many in (400, 4299, 4300, 4301, 9000, 19997):
                self.assert_bad(n, "0-" + "1" * many, "0" * many + "-1", "0-" + "0" * many + "1", "1" * many)
                self.assert_bad(n, "0-1 0-" + "9" * many, "-" + "9" * many, "-" * many, " " * many, "\n" * many)

    def test_values_that_are_no_strings(self):
        for n in (2, 3, 24):
            for value in any_values():
                self.assertEqual(answer(read_network, n, value), slow_answer(n, value), (n, value))
            self.assert_bad(n, ((0, 1),), [(0, 1)], ("0-1",), ["0-1"], {"0-1": "0-1"}, 0, 1, True, None, (), ["none"])

    def test_texts_of_all_short_sorts(self):
        signs = "012- "
        texts = [""]
        for _ in range(5):
            for text in texts:
                self.assertEqual(answer(read_network, 3, text), slow_answer(3, text), text)
            texts = [text + sign for text in texts for sign in signs]

    def test_texts_with_signs_changed(self):
        draw = random.Random(5)
        signs = "0123456789- \n+none."
        for n in LINES:
            for network in drawn_networks(n, 6):
                text = list(network_text(network))
                for _ in range(draw.randrange(1, 3)):
                    at = draw.randrange(len(text) + 1)
                    text[at:at + draw.randrange(2)] = draw.choice(("", draw.choice(signs), draw.choice(signs)))
                    value = "".join(text)
                    self.assertEqual(answer(read_network, n, value), slow_answer(n, value), (n, value))


class CallsTest(SameTest):
    def test_calls_by_place_and_by_name(self):
        for network in drawn_networks(5, 7):
            self.assert_calls(network_text, network=network)
            self.assert_calls(read_network, n=5, value=network_text(network))
        for value in any_values():
            self.assert_calls(read_network, n=5, value=value)

    def test_the_functions_are_defined_in_their_file(self):
        self.assert_defined(networktexts, "network_text", "read_network")
