"""The examples of the document, word for word, one behind another: names that were set once stay set."""

import doctest
import pathlib
import unittest

from tests.same import answer

EXAMPLES = {
    "A5": r"""
    >>> from tieskept.orders import closed, least_order, order_error, runs_order
    >>> [order_error(4, value) for value in ((), ((0, 1), (1, 3)), [(0, 1)], ((0, 1), (1, 1)), ((2, 1),), ((0, 4),), ((0, True),), ((0, 1, 2),))]
    [None, None, 'form', ('pair', 1), ('pair', 0), ('pair', 0), ('pair', 0), ('pair', 0)]
    >>> [order_error(4, value) for value in (((1, 2), (0, 1)), ((0, 1), (0, 1)), ((1, 2), (0, 1), (3, 3)))]
    [('order', 1), ('order', 1), ('pair', 2)]
    >>> chain = ((0, 1), (1, 3))
    >>> closed(4, chain), least_order(4, closed(4, chain)), closed(4, ()), least_order(4, ((0, 1), (0, 2), (0, 3), (1, 2), (2, 3)))
    (((0, 1), (0, 3), (1, 3)), ((0, 1), (1, 3)), (), ((0, 1), (1, 2), (2, 3)))
    >>> runs_order((2, 3)), runs_order((1, 1, 1)), runs_order((2,))
    (((0, 1), (2, 3), (3, 4)), (), ((0, 1),))
""",
    "A6": r"""
    >>> from tieskept.rows import cut, lets, row_error
    >>> [row_error(3, value) for value in ((5, -2, 5), (0, 10 ** 12, 0), (5, 2), [5, 2, 5], (5, True, 5), (0, 0, 10 ** 12 + 1), None)]
    [None, None, 'form', 'form', ('key', 1), ('key', 2), 'form']
    >>> lets(((0, 1),), (2, 2, 1)), lets(((0, 1), (1, 2)), (2, 2, 1)), lets((), (3, 1))
    (True, False, True)
    >>> cut((5, 2, 7, 5), 4), cut((5, 2, 7, 5), 5), cut((5, 2, 7, 5), 7), cut((5, 2, 7, 5), -1)
    ((1, 0, 1, 1), (0, 0, 1, 0), (0, 0, 0, 0), (1, 1, 1, 1))
""",
    "A7": r"""
    >>> from tieskept.words import word_count, words
    >>> word_count(3, ()), word_count(4, chain), word_count(10, runs_order((5, 5))), word_count(10, ())
    (8, 8, 36, 1024)
    >>> words(3, ((0, 1),)), words(2, ((0, 1),)), len(words(8, ()))
    (((0, 0, 0), (0, 0, 1), (0, 1, 0), (0, 1, 1), (1, 1, 0), (1, 1, 1)), ((0, 0), (0, 1), (1, 1)), 256)
    >>> words(9, ())
    raises TooMany(256)
""",
    "B2": r"""
    >>> from tieskept.networks import joined, mirrored, network_error
    >>> far, near = ((0, 2), (0, 1), (1, 2)), ((0, 1), (1, 2), (0, 1))
    >>> [network_error(3, value) for value in (far, near, (), [(0, 1)], ((0, 1), (1, 0)), ((0, 3),), ((1, 1),), ((0, 1), [0, 1]), ((0, True),), ((0, 1),) * 1000, ((0, 1),) * 1001)]
    [None, None, None, 'form', ('gate', 1), ('gate', 0), ('gate', 0), ('gate', 1), ('gate', 0), None, 'form']
""",
    "B3": r"""
    >>> mirrored(4, ((0, 1), (1, 3))), mirrored(3, far), mirrored(3, ())
    (((2, 3), (0, 2)), ((0, 2), (1, 2), (0, 1)), ())
    >>> joined(4, ((0, 1),), ((0, 1), (0, 2)), 1), joined(3, far, near, 0) == far + near, joined(3, (), (), 24)
    (((0, 1), (1, 2), (1, 3)), True, ())
    >>> joined(4, (), ((0, 1), (0, 2)), 2)
    raises Unfit()
    >>> joined(3, near * 333, ((0, 1), (0, 1)), 0)
    raises TooMany(1000)
""",
}


class ExamplesTest(unittest.TestCase):
    def test_the_examples_word_for_word(self):
        names = {}
        for promise, text in EXAMPLES.items():
            examples = doctest.DocTestParser().get_examples(text)
            self.assertEqual(len(examples), text.count(">>>"), promise)
            for example in examples:
                with self.subTest(promise, source=example.source):
                    self.check(names, example.source, example.want.strip())

    def test_the_examples_of_the_readme(self):
        readme = pathlib.Path(__file__).parent.parent / "README.md"
        result = doctest.testfile(str(readme), module_relative=False)
        self.assertEqual(result.failed, 0)
        self.assertGreater(result.attempted, 0)

    def check(self, names, source, want):
        if want:
            self.assertEqual(answer(eval, source, names), want)
        else:
            exec(source, names)


if __name__ == "__main__":
    unittest.main()
