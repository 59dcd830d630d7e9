"""The examples of the document, word for word, one behind another: names that were set once stay set."""

import doctest
import pathlib
import unittest

from tests.same import answer

EXAMPLES = {
    "A5": r"""
    >>> from tieskept.orders import closed, least_order, order_error, runs_order
    >>> [order_error(4, value) for value in ((), ((0, 1), (1, 3)), [(0, 1)], ((0, 1), (1, 1)), ((2, 1),), ((0, 4),), ((0, True),), ((0, 1, 2),))]
    [None, None, 'form', ('pair', 1), ('pair', 0), ('pair', 0), ('pair', 0), ('pair', 0)]
    >>> [order_error(4, value) for value in (((1, 2), (0, 1)), ((0, 1), (0, 1)), ((1, 2), (0, 1), (3, 3)))]
    [('order', 1), ('order', 1), ('pair', 2)]
    >>> chain = ((0, 1), (1, 3))
    >>> closed(4, chain), least_order(4, closed(4, chain)), closed(4, ()), least_order(4, ((0, 1), (0, 2), (0, 3), (1, 2), (2, 3)))
    (((0, 1), (0, 3), (1, 3)), ((0, 1), (1, 3)), (), ((0, 1), (1, 2), (2, 3)))
    >>> runs_order((2, 3)), runs_order((1, 1, 1)), runs_order((2,))
    (((0, 1), (2, 3), (3, 4)), (), ((0, 1),))
""",
    "A6": r"""
    >>> from tieskept.rows import cut, lets, row_error
    >>> [row_error(3, value) for value in ((5, -2, 5), (0, 10 ** 12, 0), (5, 2), [5, 2, 5], (5, True, 5), (0, 0, 10 ** 12 + 1), None)]
    [None, None, 'form', 'form', ('key', 1), ('key', 2), 'form']
    >>> lets(((0, 1),), (2, 2, 1)), lets(((0, 1), (1, 2)), (2, 2, 1)), lets((), (3, 1))
    (True, False, True)
    >>> cut((5, 2, 7, 5), 4), cut((5, 2, 7, 5), 5), cut((5, 2, 7, 5), 7), cut((5, 2, 7, 5), -1)
    ((1, 0, 1, 1), (0, 0, 1, 0), (0, 0, 0, 0), (1, 1, 1, 1))
""",
    "A7": r"""
    >>> from tieskept.words import word_count, words
    >>> word_count(3, ()), word_count(4, chain), word_count(10, runs_order((5, 5))), word_count(10, ())
    (8, 8, 36, 1024)
    >>> words(3, ((0, 1),)), words(2, ((0, 1),)), len(words(8, ()))
    (((0, 0, 0), (0, 0, 1), (0, 1, 0), (0, 1, 1), (1, 1, 0), (1, 1, 1)), ((0, 0), (0, 1), (1, 1)), 256)
    >>> words(9, ())
    raises TooMany(256)
""",
    "B2": r"""
    >>> from tieskept.networks import joined, mirrored, network_error
    >>> far, near = ((0, 2), (0, 1), (1, 2)), ((0, 1), (1, 2), (0, 1))
    >>> [network_error(3, value) for value in (far, near, (), [(0, 1)], ((0, 1), (1, 0)), ((0, 3),), ((1, 1),), ((0, 1), [0, 1]), ((0, True),), ((0, 1),) * 1000, ((0, 1),) * 1001)]
    [None, None, None, 'form', ('gate', 1), ('gate', 0), ('gate', 0), ('gate', 1), ('gate', 0), None, 'form']
""",
    "B3": r"""
    >>> mirrored(4, ((0, 1), (1, 3))), mirrored(3, far), mirrored(3, ())
    (((2, 3), (0, 2)), ((0, 2), (1, 2), (0, 1)), ())
    >>> joined(4, ((0, 1),), ((0, 1), (0, 2)), 1), joined(3, far, near, 0) == far + near, joined(3, (), (), 24)
    (((0, 1), (1, 2), (1, 3)), True, ())
    >>> joined(4, (), ((0, 1), (0, 2)), 2)
    raises Unfit()
    >>> joined(3, near * 333, ((0, 1), (0, 1)), 0)
    raises TooMany(1000)
""",
    "B4": r"""
    >>> from tieskept.networktexts import network_text, read_network
    >>> network_text(far), network_text(()), read_network(12, "0-11 3-4"), read_network(2, "none")
    ('0-2 0-1 1-2', 'none', ((0, 11), (3, 4)), ())
    >>> read_network(3, "1-0")
    raises BadText()
    >>> read_network(3, "0-1  1-2")
    raises BadText()
    >>> read_network(3, "00-1")
    raises BadText()
    >>> read_network(3, "0-3")
    raises BadText()
""",
    "B5": r"""
    >>> from tieskept.runs import came, exchanged, out, out_often, settled
    >>> out(far, (2, 2, 1)), came(far, (2, 2, 1)), exchanged(far, (2, 2, 1))
    ((1, 2, 2), (2, 1, 0), (0,))
    >>> out(near, (2, 2, 1)), came(near, (2, 2, 1)), exchanged(near, (2, 2, 1))
    ((1, 2, 2), (2, 0, 1), (1, 2))
    >>> out(near, (3, 1, 2)), came(near, (3, 1, 2)), exchanged(near, (3, 1, 2)), exchanged(near, (0, 0, 0)), out((), (3, 1, 2))
    ((1, 2, 3), (1, 2, 0), (0, 1), (), (3, 1, 2))
""",
    "B6": r"""
    >>> pass_on = ((0, 1), (1, 2))
    >>> out_often(pass_on, (3, 2, 1), 1), out_often(pass_on, (3, 2, 1), 2), out_often(pass_on, (3, 2, 1), 10 ** 30), out_often(pass_on, (3, 2, 1), 0)
    ((2, 1, 3), (1, 2, 3), (1, 2, 3), (3, 2, 1))
    >>> settled(pass_on, (3, 2, 1)), settled(pass_on, (2, 1, 3)), settled(pass_on, (1, 1, 2)), settled(((0, 2),), (3, 1, 2)), settled((), (3, 2, 1))
    (2, 1, 0, 1, 0)
""",
    "C2": r"""
    >>> from tieskept.live import bare, live, live_word, sure, unlike_word, unsorted_word
    >>> twice = ((0, 1), (1, 2), (0, 1), (1, 2))
    >>> live(3, (), twice), live(3, ((0, 1),), twice), live(3, ((0, 1), (1, 2)), twice), live(3, ((0, 2),), ((0, 2), (0, 1)))
    ((0, 1, 2), (1, 2), (), (1,))
    >>> live_word(3, (), twice, 2), live_word(3, ((0, 1),), twice, 2), live_word(3, (), twice, 0) in ((1, 0, 0), (1, 0, 1))
    ((1, 1, 0), (1, 1, 0), True)
    >>> live_word(3, (), twice, 3)
    raises Unfit()
    >>> bare(3, (), twice), bare(3, ((0, 1),), twice), bare(3, ((0, 1), (1, 2)), twice), bare(2, (), ())
    (((0, 1), (1, 2), (0, 1)), ((1, 2), (0, 1)), (), ())
""",
    "C3": r"""
    >>> sure(3, (), twice), sure(3, (), twice[:2]), sure(3, (), ((0, 2),)), sure(3, ((0, 1),), ()), sure(2, (), ())
    (((0, 1), (0, 2), (1, 2)), ((0, 2), (1, 2)), ((0, 2),), ((0, 1),), ())
    >>> unsorted_word(3, (), twice[:2]), unsorted_word(3, (), twice), unsorted_word(3, ((0, 1), (0, 2)), twice[:2]), unsorted_word(2, (), ())
    ((1, 1, 0), None, None, (1, 0))
    >>> unlike_word(3, (), ((0, 1), (1, 2)), ((1, 2), (0, 1))) in ((1, 0, 0), (1, 1, 0)), unlike_word(3, (), twice, twice[:3]), unlike_word(3, (), ((0, 1), (0, 2), (1, 2)), twice[:3])
    (True, None, None)
    >>> unlike_word(3, ((0, 1),), twice[:2], ((1, 2),)), unlike_word(3, ((0, 2),), ((0, 2),), ()), unlike_word(2, (), ((0, 1),), ())
    (None, None, (1, 0))
""",
    "D2": r"""
    >>> from tieskept.ties import clean_word, keeps_ties, kept_gates, paper_holds, passing
    >>> bubble, leap, late = ((0, 1), (1, 2), (0, 1)), ((0, 2),), ((0, 1), (0, 2), (1, 2))
    >>> keeps_ties(3, (), bubble), keeps_ties(3, (), leap), keeps_ties(3, (), bubble + leap), keeps_ties(3, (), ())
    (True, False, True, True)
    >>> keeps_ties(3, ((0, 1), (1, 2)), leap), keeps_ties(3, ((0, 1),), leap), keeps_ties(3, ((0, 2),), leap), keeps_ties(3, ((1, 2),), leap)
    (True, False, True, False)
    >>> kept_gates(3, (), bubble), kept_gates(3, (), late), kept_gates(3, (), leap), kept_gates(3, ((0, 2),), late), kept_gates(3, ((0, 1),), late)
    (3, 1, 0, 3, 1)
""",
    "D3": r"""
    >>> [paper_holds(3, (), leap, value) for value in (((1, 1, 0), 0, 1), ((1, 0, 0), 1, 2), ((1, 1, 0), 1, 0), ((1, 0, 1), 0, 2), ((2, 2, 0), 0, 1), [(1, 1, 0), 0, 1], None)]
    [True, True, False, False, False, False, False]
    >>> paper_holds(3, ((0, 1),), leap, ((1, 1, 0), 0, 1)), paper_holds(3, ((0, 1),), leap, ((1, 0, 0), 1, 2)), paper_holds(3, (), late, passing(3, (), late))
    (True, False, True)
    >>> passing(3, (), bubble)
    raises Unfit()
""",
    "D4": r"""
    >>> clean_word(3, (), late), clean_word(4, (), ((1, 2), (0, 2))), clean_word(3, ((1, 2),), leap)
    ((1, 1, 0), (1, 0, 0, 1), (1, 0, 0))
    >>> clean_word(3, (), bubble)
    raises Unfit()
""",
    "D5": r"""
    >>> from tieskept.telling import fewest_told
    >>> fewest_told(3, (), leap), len(fewest_told(3, ((0, 1),), leap)), fewest_told(3, (), bubble), len(fewest_told(3, (), late))
    (((0, 2),), 2, (), 1)
    >>> fewest_told(4, (), ((0, 2), (1, 3))), keeps_ties(3, fewest_told(3, (), late), late)
    (((0, 2), (1, 3)), True)
""",
    "E2": r"""
    >>> from tieskept.runs import came
    >>> from tieskept.tags import border_paper, least_tags, tagged_came, tags_hold, turned_in
    >>> three = ((0, 2), (0, 1), (1, 2))
    >>> came(three, (5, 5, 3)), tagged_came((0,), three, (5, 5, 3)), tagged_came((0, 1, 2), three, (5, 5, 3)), tagged_came((0, 2), three, (5, 5, 3))
    ((2, 1, 0), (2, 1, 0), (2, 0, 1), (2, 1, 0))
    >>> tagged_came((0, 1), three, (5, 5, 5)), tagged_came((0, 1), ((0, 1),), (7, 7)), tagged_came((0, 1), (), (7, 2))
    ((0, 1, 2), (0, 1), (0, 1))
""",
    "E3": r"""
    >>> turned_in(3, (), three, 0, 1), turned_in(3, (), three, 1, 2), turned_in(3, (), three, 1, 1), turned_in(3, ((0, 2),), three, 0, 2)
    (((1, 1, 0), 0, 1), ((2, 1, 1), 1, 2), None, None)
    >>> turned_in(3, (), three, 0, 2) in (((1, 1, 0), 0, 1), ((2, 1, 1), 1, 2)), turned_in(3, (), ((0, 1), (1, 2), (0, 1)), 0, 2)
    (True, None)
    >>> jump = ((0, 3),)
    >>> turned_in(4, (), jump, 0, 1) in (((1, 1, 0, 0), 0, 1), ((1, 1, 2, 0), 0, 1)), turned_in(4, (), jump, 1, 2), turned_in(4, ((0, 1), (2, 3)), ((0, 2), (1, 3), (1, 2)), 0, 1)
    (True, None, ((1, 1, 0, 2), 0, 1))
""",
    "E4": r"""
    >>> least_tags(3, (), three), least_tags(4, (), jump), least_tags(3, ((0, 2),), three), least_tags(4, (), ((0, 1), (2, 3), (1, 2)))
    ((0, 1, 2), (0, 1, 3), (0,), (0,))
    >>> border_paper(3, (), three, 1), border_paper(3, (), three, 2)
    (((1, 1, 0), 0, 1), ((2, 1, 1), 1, 2))
    >>> border_paper(3, (), three, 3)
    raises Unfit()
    >>> border_paper(3, (), three, True)
    raises Unfit()
    >>> border_paper(4, (), jump, 3)
    raises Unfit()
    >>> [tags_hold(4, (), jump, starts) for starts in ((0, 1, 3), (0, 1, 2, 3), (0,), (0, 3), (0, 1))], tags_hold(3, (), three, (0, 1, 2))
    ([True, True, False, False, False], True)
""",
    "F2": r"""
    >>> from tieskept.images import all_paper, image, keeps_all, kept_all_gates
    >>> from tieskept.ties import paper_holds
    >>> two = ((0, 1), (1, 2))
    >>> image(3, bubble), image(3, two), image(3, leap), image(4, ((2, 3),)), image(2, ())
    ((1, 2, 3), (2, 1, 3), (1, 2, 3), (4, 3, 1, 2), (2, 1))
    >>> keeps_all(3, bubble), keeps_all(3, leap), keeps_all(3, bubble + leap), keeps_all(24, ((0, 23),))
    (True, False, True, False)
    >>> kept_all_gates(3, bubble), kept_all_gates(3, late), kept_all_gates(3, leap), kept_all_gates(4, ((0, 1), (2, 3), (1, 3), (0, 2)))
    (3, 1, 0, 2)
""",
    "F3": r"""
    >>> paper_holds(3, (), leap, all_paper(3, leap)), paper_holds(3, (), late, all_paper(3, late))
    (True, True)
    >>> far = tuple([(k, k + 2) for k in range(22)]) + ((0, 1),)
    >>> paper_holds(24, (), far, all_paper(24, far))
    True
    >>> all_paper(3, bubble)
    raises Unfit()
""",
    "F4": r"""
    >>> from tieskept.comings import ahead, can_come, come_count
    >>> from tieskept.runs import out
    >>> ahead(3, two), ahead(3, bubble), ahead(3, ()), ahead(3, ((0, 1),))
    (((0, 2), (1, 2)), ((0, 1), (0, 2), (1, 2)), (), ((0, 1),))
    >>> out(two, can_come(3, two, (0, 1, 2))), out(two, can_come(3, two, (1, 0, 2))), can_come(3, two, (2, 0, 1))
    ((0, 1, 2), (1, 0, 2), None)
    >>> come_count(3, two), come_count(3, ((0, 1),)), come_count(3, bubble), come_count(3, ()), come_count(10, ())
    (2, 3, 1, 6, 3628800)
    >>> come_count(3, leap)
    raises Unfit()
""",
    "F6": r"""
    >>> from tieskept.mending import least_network, mended
    >>> len(least_network(3, two + two)), len(least_network(3, bubble + leap + bubble)), least_network(4, ((2, 3), (2, 3))), least_network(3, ())
    (3, 3, ((2, 3),), ())
    >>> image(3, mended(3, late)), [out(mended(3, late), row) for row in ((1, 2, 1), (5, 4, 3), (1, 0, 1))]
    ((1, 2, 3), [(1, 1, 2), (3, 4, 5), (0, 1, 1)])
    >>> sorter = mended(4, ((0, 2), (1, 3), (0, 1), (2, 3), (1, 2)))
    >>> keeps_all(4, sorter), out(sorter, (4, 2, 3, 1)), [j - i for i, j in sorter] == [1] * len(sorter)
    (True, (1, 2, 3, 4), True)
    >>> least_network(3, late)
    raises Unfit()
""",
    "G3": r"""
    >>> from tieskept.benches import Bench
    >>> b, leap, late, bubble = Bench(3), ((0, 2),), ((0, 1), (0, 2), (1, 2)), ((0, 1), (1, 2), (0, 1))
    >>> [b.add("leap", leap), b.keeps("leap"), b.made, b.told(((0, 2),)), b.keeps("leap"), b.made, b.order]
    [1, False, 1, 2, True, 2, ((0, 2),)]
    >>> [b.undo(), b.order, b.keeps("leap"), b.made, b.redo(), b.keeps("leap"), b.made]
    [1, (), False, 2, 2, True, 2]
    >>> [b.add("late", late), b.add("bubble", bubble), b.alike("late", "bubble"), b.made, b.alike("leap", "late"), b.made, b.image_of("late"), b.made]
    [3, 4, True, 4, False, 4, (1, 2, 3), 4]
    >>> [b.put("late", 1, (0, 1)), b.keeps("late"), b.made, b.take("late", 1), b["late"], b.alike("late", "bubble"), b.made]
    [5, True, 5, 6, ((0, 1), (1, 2)), True, 6]
    >>> b.more("leap", (1, 0))
    raises BadNetwork(('gate', 1))
    >>> b.take("leap", 1)
    raises Unfit()
    >>> b.told(((0, 0),))
    raises Unfit()
    >>> b.add("leap", leap)
    raises Taken('leap')
""",
    "G5": r"""
    >>> [b.at(1), b.at(b.version) == (b.order, b.shelf), b.copy() == b, b.copy() is b, len(b), list(b)]
    [((), (('leap', ((0, 2),)),)), True, True, False, 3, ['bubble', 'late', 'leap']]
    >>> [b.batch((("told", ()), ("call", "leap", "far"))), b.log[-1][0], b.keeps("far"), b.made, b.undo(), b.keeps("leap"), b.made]
    [7, 'batch', False, 6, 6, True, 6]
    >>> b.batch((("drop", "leap"), ("drop", "leap")))
    raises Rejected(1)
    >>> b.batch((("told",),))
    raises BadBatch()
    >>> b.at(True)
    raises NoVersion(True)
""",
    "G6": r"""
    >>> from tieskept.shells import Shell
    >>> s = Shell(3)
    >>> [s.say("names"), s.say("add late 0-1 0-2 1-2"), s.say("show late"), s.say("keeps late"), s.say("told 0-2"), s.say("keeps late"), s.say("order"), s.say("made")]
    ['none', 'version 1', '0-1 0-2 1-2', 'no', 'version 2', 'yes', '0-2', '2']
    >>> [s.say("image late"), s.say("take late 1"), s.say("take late 2"), s.say("take late 02"), s.say("told 1-2 0-2"), s.say("told none"), s.say("keeps lamp"), s.say("drop"), s.say(7)]
    ['1 2 3', 'version 3', 'error Unfit', 'what', 'what', 'version 4', 'error NoName', 'what', 'what']
    >>> [s.say("add none 0-1"), s.say("add empty none"), s.say("alike late empty"), s.say("undo"), s.say("redo"), s.say("redo")]
    ['error Unfit', 'version 5', 'no', 'version 4', 'version 5', 'error NothingToRedo']
""",
}


class ExamplesTest(unittest.TestCase):
    def test_the_examples_word_for_word(self):
        names = {}
        for promise, text in EXAMPLES.items():
            examples = doctest.DocTestParser().get_examples(text)
            self.assertEqual(len(examples), text.count(">>>"), promise)
            for example in examples:
                with self.subTest(promise, source=example.source):
                    self.check(names, example.source, example.want.strip())

    def test_the_examples_of_the_readme(self):
        readme = pathlib.Path(__file__).parent.parent / "README.md"
        result = doctest.testfile(str(readme), module_relative=False)
        self.assertEqual(result.failed, 0)
        self.assertGreater(result.attempted, 0)

    def check(self, names, source, want):
        if want:
            self.assertEqual(answer(eval, source, names), want)
        else:
            exec(source, names)


if __name__ == "__main__":
    unittest.main()
