"""[A7], and what [A8] says of words."""

import random

from tests.same import SameTest
from tests.samples import WORDY, all_orders, all_pairs, all_words, drawn_orders, slow_closed, slow_let_words
from tieskept import words as module
from tieskept.bounds import MAX_WORDS
from tieskept.orders import runs_order
from tieskept.words import word_count, words

# Orders that let 256 words, and orders that let 257: there one line has 1 wherever another one has, or all
# others have 1 wherever it has, which makes one word more than the other lines have.
AT_MOST = (
    (8, ()),
    (9, runs_order((1, 1, 1, 1, 1, 1, 3))),
    (9, ((0, 8), (1, 6), (1, 8))),
    (10, runs_order((1, 1, 1, 1, 3, 3))),
    (10, ((0, 7), (3, 4), (4, 6), (7, 8))),
)
ONE_MORE = (
    (9, tuple((p, 8) for p in range(8))),
    (9, tuple((0, q) for q in range(1, 9))),
    (10, tuple(sorted({*runs_order((1, 1, 1, 1, 1, 1, 3)), *[(p, 9) for p in range(9)]}))),
    (10, tuple(sorted({*[(0, q) for q in range(1, 10)], (7, 8), (8, 9)}))),
)


def drawn_sizes(n, draw):
    """Return sizes of runs that make n together."""
    starts = [0, *sorted(draw.sample(range(1, n), draw.randrange(n))), n]
    return tuple(end - start for start, end in zip(starts, starts[1:]))


class WordsTest(SameTest):
    def check(self, n, order):
        let = slow_let_words(n, order)
        self.assert_same(word_count(n, order), len(let), n, order)
        if len(let) <= 256:
            self.assert_same(words(n, order), tuple(let), n, order)
        else:
            self.assert_raises("TooMany(256)", words, n, order)

    def test_all_orders_of_few_lines(self):
        for n in (2, 3, 4):
            for order in all_orders(n):
                self.check(n, order)

    def test_drawn_orders_to_ten_lines(self):
        for n in WORDY:
            for order in drawn_orders(n, 1) + drawn_orders(n, 2):
                self.check(n, order)

    def test_no_order_and_all_pairs(self):
        for n in WORDY:
            self.assert_same(word_count(n, ()), 2 ** n)
            self.assert_same(word_count(n, all_pairs(n)), n + 1)
            self.assert_same(words(n, all_pairs(n)), tuple((0,) * (n - k) + (1,) * k for k in range(n + 1)))
        for n in range(2, 9):
            self.assert_same(words(n, ()), tuple(all_words(n)))

    def test_runs_let_the_product_of_their_sizes_each_made_greater_by_one(self):
        draw = random.Random(3)
        for n in WORDY:
            for _ in range(30):
                sizes = drawn_sizes(n, draw)
                told = 1
                for size in sizes:
                    told *= size + 1
                self.assert_same(word_count(n, runs_order(sizes)), told, sizes)

    def test_256_words_are_not_too_many(self):
        for n, order in AT_MOST:
            self.assert_same(word_count(n, order), 256, n, order)
            self.assert_same(words(n, order), tuple(slow_let_words(n, order)), n, order)

    def test_one_word_more_is_too_many(self):
        for n, order in ONE_MORE:
            self.assert_same(word_count(n, order), 257, n, order)
            self.assert_raises("TooMany(256)", words, n, order)
        for n in (9, 10):
            for order in ((), ((0, 1),)):
                self.assert_raises("TooMany(256)", words, n, order)


class WhatHoldsTest(SameTest):
    def test_the_greater_and_the_lesser_items_of_two_words_make_words(self):
        for n in range(2, 8):
            for order in drawn_orders(n, 4):
                let = words(n, order)
                for one in let:
                    for other in let:
                        self.assertIn(tuple(map(max, one, other)), let)
                        self.assertIn(tuple(map(min, one, other)), let)

    def test_a_pair_more_never_makes_the_words_more(self):
        for n in WORDY:
            draw = random.Random(n)
            for order in drawn_orders(n, 5):
                most = slow_closed(order)
                for pair in draw.sample(all_pairs(n), min(6, len(all_pairs(n)))):
                    more = tuple(sorted({*order, pair}))
                    if pair in most:
                        self.assertEqual(word_count(n, more), word_count(n, order), (order, pair))
                    else:
                        self.assertLess(word_count(n, more), word_count(n, order), (order, pair))


class CallsTest(SameTest):
    def test_calls_by_place_and_by_name(self):
        for n in (2, 5, 9, 10):
            for order in drawn_orders(n, 6):
                self.assert_calls(word_count, n=n, order=order)
                self.assert_calls(words, n=n, order=order)

    def test_the_limit_is_told(self):
        self.assertEqual(MAX_WORDS, 256)
        self.assert_raises(f"TooMany({MAX_WORDS})", words, 9, ((0, 1),))

    def test_the_functions_are_defined_in_their_file(self):
        self.assert_defined(module, "word_count", "words")
