"""[G1] to [G5], and what [G7] says of them."""

import copy
import inspect
import random
import time

from tests.anyvalues import any_values
from tests.same import SameTest, answer
from tests.samples import WORDY, all_pairs, drawn_networks, drawn_orders, slow_run, sorter
from tests.slowbench import ARGUMENTS, SlowBench, is_name
from tieskept import benches
from tieskept.benches import Bench
from tieskept.errors import NoName, NoVersion, Taken, TiesError, Unfit
from tieskept.images import image
from tieskept.live import unlike_word
from tieskept.ties import keeps_ties

LEAP = ((0, 2),)
BUBBLE = ((0, 1), (1, 2), (0, 1))
LATE = ((0, 1), (0, 2), (1, 2))
METHODS = {
    "add": ["name", "network"], "drop": ["name"], "call": ["name", "other"], "put": ["name", "spot", "gate"],
    "take": ["name", "spot"], "more": ["name", "gate"], "told": ["order"], "batch": ["edits"], "keeps": ["name"],
    "alike": ["name", "other"], "image_of": ["name"], "undo": [], "redo": [], "at": ["version"], "copy": [],
    "attempt": ["work"],
}


def bench(n=3, **networks):
    """Return a bench with these networks under these names."""
    made = Bench(n)
    for name, network in networks.items():
        made.add(name, network)
    return made


def named_bench(many):
    """Return a bench of three lines with so many names."""
    return bench(**{name: LATE for name in ("a", "b", "c", "d", "e", "f")[:many]})


def full_bench():
    """Return a bench on which forty edits stand."""
    made = bench(late=LATE, leap=LEAP)
    for _ in range(38):
        made.told(())
    return made


class BenchCase(SameTest):
    def told_of(self, b):
        """All that a bench tells, but what has to be worked out."""
        states = [b.at(version) for version in range(b.version + 1)]
        return [b.n, b.order, b.shelf, b.version, b.log, b.made, len(b), list(b), states, [b[name] for name in b]]

    def undone_of(self, b):
        """What is told by all that can be done again."""
        twin = b.copy()
        found = []
        while answer(twin.redo) != "raises NothingToRedo()":
            found.append(self.told_of(twin))
        return found

    def assert_stays(self, b, told, call, *arguments):
        """The call raises what is told, and changes nothing."""
        before = repr(self.told_of(b)), repr(self.undone_of(b))
        self.assert_raises(told, call, *arguments)
        self.assertEqual((repr(self.told_of(b)), repr(self.undone_of(b))), before, arguments)


class NewBenchTest(BenchCase):
    def test_a_new_bench(self):
        for n in WORDY:
            for b in (Bench(n), Bench(n=n)):
                self.assert_same(self.told_of(b), [n, (), (), 0, (), 0, 0, [], [((), ())], []])
                self.assertEqual(self.undone_of(b), [])

    def test_values_that_are_no_number_of_lines(self):
        for value in [*any_values(), -1, 0, 1, 11, 12, 24, 25, 3.0, "3", (3,), [3], Bench(3)]:
            if type(value) is int and 2 <= value <= 10:
                self.assertEqual(Bench(value).n, value)
            else:
                self.assert_raises("Unfit()", Bench, value)

    def test_the_properties_can_only_be_read(self):
        b = bench(late=LATE)
        for name in ("n", "order", "shelf", "version", "log", "made"):
            self.assertIs(type(vars(Bench)[name]), property)
            told = getattr(b, name)
            with self.assertRaises(AttributeError):
                setattr(b, name, told)
            with self.assertRaises(AttributeError):
                delattr(b, name)
            self.assert_same(getattr(b, name), told)

    def test_what_the_interface_lists_is_defined_in_the_class_itself(self):
        for name, parameters in METHODS.items():
            self.assertTrue(inspect.isfunction(vars(Bench)[name]), name)
            self.assertEqual(list(inspect.signature(vars(Bench)[name]).parameters), ["self", *parameters])
        for name in ("__init__", "__len__", "__getitem__", "__iter__", "__eq__", "__ne__"):
            self.assertTrue(inspect.isfunction(vars(Bench)[name]), name)
        self.assertEqual(Bench.__module__, benches.__name__)


class NamesTest(BenchCase):
    def test_names_of_all_lengths(self):
        for name in ("a", "z", "no", "nones", "non", "abcdefgh", "zzzzzzzz", "one", "leap", "batch"):
            b = Bench(3)
            self.assert_same(b.add(name, LEAP), 1)
            self.assert_same(b.shelf, ((name, LEAP),))
            self.assert_same(b[name], LEAP)
            self.assert_same((len(b), list(b)), (1, [name]))
            self.assert_same(b.call(name, "a" if name != "a" else "b"), 2)
            self.assert_same(b.call("a" if name != "a" else "b", name), 3)
            self.assert_same(b.shelf, ((name, LEAP),))

    def test_what_is_no_name(self):
        values = ["", "none", "A", "aB", "a1", "1", " ", "a ", " a", "a b", "a\n", "\na", "a-b", "a_b", "abcdefghi"]
        values += ["NONE", "aaaaaaaaa", "a" * 20000, "a.", "{", "~", "\n", ("a",), ["a"], {"a": "a"}]
        for value in [*values, *any_values()]:
            if not is_name(value):
                self.assert_stays(bench(late=LATE), "Unfit()", Bench.add, Bench(3), value, LEAP)
                b = bench(late=LATE)
                self.assert_stays(b, "Unfit()", b.add, value, LEAP)
                self.assert_stays(b, "Unfit()", b.call, "late", value)
            for call in (lambda b: b[value], lambda b: b.drop(value), lambda b: b.keeps(value)):
                b = bench(late=LATE)
                with self.assertRaises(NoName) as context:
                    call(b)
                self.assertIs(context.exception.given, value)

    def test_names_come_ascending(self):
        draw = random.Random(1)
        for _ in range(50):
            names = list({"".join(draw.choices("abyz", k=draw.randrange(1, 9))) for _ in range(6)})
            b = Bench(3)
            for name in names:
                b.add(name, LEAP)
            self.assert_same(list(b), sorted(names))
            self.assert_same(b.shelf, tuple((name, LEAP) for name in sorted(names)))
            for other in ("a", "m", "zzzzzzzz"):
                if other not in b:
                    b.call(list(b)[0], other)
                    self.assert_same(list(b), sorted(b))
                    self.assert_same([name for name, _ in b.shelf], list(b))

    def test_values_of_all_sorts_are_no_names_that_are_there(self):
        for value in any_values():
            b = bench(late=LATE)
            calls = [
                (b.drop,), (b.call, "new"), (b.call, None), (b.put, 0, (0, 1)), (b.put, None, None), (b.take, 0),
                (b.more, (0, 1)), (b.more, None), (b.keeps,), (b.alike, "late"), (b.image_of,), (b.__getitem__,),
            ]
            for call, *more in calls:
                before = self.told_of(b)
                with self.assertRaises(NoName) as context:
                    call(value, *more)
                self.assertIs(context.exception.given, value)
                self.assert_same(self.told_of(b), before)
            with self.assertRaises(NoName) as context:
                b.alike("late", value)
            self.assertIs(context.exception.given, value)

    def test_six_names_and_no_more(self):
        b = named_bench(6)
        self.assert_stays(b, "TooMany(6)", b.add, "g", LEAP)
        # What else is wrong is told ahead of that.
        self.assert_stays(b, "Taken('f')", b.add, "f", LEAP)
        self.assert_stays(b, "BadNetwork('form')", b.add, "g", None)
        self.assert_stays(b, "Unfit()", b.add, "none", LEAP)
        self.assert_same(b.call("a", "z"), 7)
        self.assert_same(b.drop("z"), 8)
        self.assert_same(b.add("g", LEAP), 9)
        self.assert_stays(b, "TooMany(6)", b.add, "h", LEAP)


class EqualTest(BenchCase):
    def assert_equal(self, one, other, told):
        self.assertIs(one == other, told)
        self.assertIs(other == one, told)
        self.assertIs(one != other, not told)
        self.assertIs(other != one, not told)

    def test_benches_with_the_same_lines_orders_and_shelves(self):
        self.assert_equal(Bench(3), Bench(3), True)
        self.assert_equal(Bench(3), Bench(4), False)
        self.assert_equal(bench(late=LATE, leap=LEAP), bench(leap=LEAP, late=LATE), True)
        self.assert_equal(bench(late=LATE), bench(late=LEAP), False)
        self.assert_equal(bench(late=LATE), bench(lamp=LATE), False)
        self.assert_equal(bench(late=LATE), bench(late=LATE, leap=LEAP), False)
        self.assert_equal(bench(4, late=LATE), bench(3, late=LATE), False)

    def test_orders_are_compared_as_tuples(self):
        one, other = Bench(3), Bench(3)
        one.told(((0, 1), (1, 2)))
        self.assert_equal(one, other, False)
        other.told(((0, 1), (0, 2), (1, 2)))
        self.assert_equal(one, other, False)
        other.told(((0, 1), (1, 2)))
        self.assert_equal(one, other, True)

    def test_edits_and_accounts_do_not_matter(self):
        one, other = bench(late=LATE, leap=LEAP), bench(late=LATE)
        one.drop("leap")
        one.keeps("late")
        self.assert_equal(one, other, True)
        other.undo()
        one.drop("late")
        self.assert_equal(one, other, True)

    def test_nothing_else_is_equal(self):
        b = bench(late=LATE)
        values = [b.shelf, b.at(1), list(b), {"late": LATE}, "late", 3, (3, (), b.shelf), [b], (b,), Bench, b.keeps]
        for value in [*any_values(), *values]:
            self.assertIs(b == value, False)
            self.assertIs(value == b, False)
            self.assertIs(b != value, True)
            self.assertIs(value != b, True)
        self.assert_equal(Bench(3), (), False)
        self.assert_equal(b, b, True)


class EditsTest(BenchCase):
    def test_each_edit(self):
        b = Bench(4)
        steps = [
            (("add", "late", LATE), (), (("late", LATE),)),
            (("add", "a", ()), (), (("a", ()), ("late", LATE))),
            (("put", "late", 1, (2, 3)), (), (("a", ()), ("late", ((0, 1), (2, 3), (1, 2))))),
            (("put", "late", 2, (0, 3)), (), (("a", ()), ("late", ((0, 1), (2, 3), (0, 3))))),
            (("take", "late", 0), (), (("a", ()), ("late", ((2, 3), (0, 3))))),
            (("more", "a", (1, 3)), (), (("a", ((1, 3),)), ("late", ((2, 3), (0, 3))))),
            (("told", ((0, 1), (0, 2))), ((0, 1), (0, 2)), (("a", ((1, 3),)), ("late", ((2, 3), (0, 3))))),
            (("call", "late", "aa"), ((0, 1), (0, 2)), (("a", ((1, 3),)), ("aa", ((2, 3), (0, 3))))),
            (("drop", "a"), ((0, 1), (0, 2)), (("aa", ((2, 3), (0, 3))),)),
            (("batch", (("told", ()), ("drop", "aa"))), (), ()),
        ]
        for version, ((word, *arguments), order, shelf) in enumerate(steps, 1):
            self.assert_same(getattr(b, word)(*arguments), version)
            self.assert_same((b.order, b.shelf, b.version), (order, shelf, version))
            self.assert_same(b.log, tuple(edit for edit, _, _ in steps[:version]))
            self.assert_same(b.at(version), (order, shelf))

    def test_edits_that_leave_all_as_it_was_are_edits(self):
        b = bench(late=LATE)
        self.assert_same(b.told(()), 2)
        self.assert_same(b.put("late", 0, (0, 1)), 3)
        self.assert_same(b.batch(()), 4)
        self.assert_same(b.log[1:], (("told", ()), ("put", "late", 0, (0, 1)), ("batch", ())))
        self.assert_same(b.shelf, (("late", LATE),))

    def test_the_errors_of_add_in_their_order(self):
        b = bench(late=LATE)
        self.assert_stays(b, "Unfit()", b.add, "Late", None)
        self.assert_stays(b, "BadNetwork('form')", b.add, "late", [(0, 1)])
        self.assert_stays(b, "BadNetwork(('gate', 1))", b.add, "late", ((0, 1), (0, 3)))
        self.assert_stays(b, "BadNetwork('form')", b.add, "new", ((0, 1),) * 1001)
        self.assert_stays(b, "Taken('late')", b.add, "late", LEAP)
        self.assert_same(b.add("new", ((0, 1),) * 1000), 2)

    def test_the_errors_of_call_in_their_order(self):
        b = bench(late=LATE, leap=LEAP)
        self.assert_stays(b, "NoName('lamp')", b.call, "lamp", "NO")
        self.assert_stays(b, "NoName('lamp')", b.call, "lamp", "late")
        self.assert_stays(b, "Unfit()", b.call, "late", "none")
        self.assert_stays(b, "Unfit()", b.call, "late", None)
        self.assert_stays(b, "Taken('leap')", b.call, "late", "leap")
        self.assert_stays(b, "Taken('late')", b.call, "late", "late")

    def test_the_errors_of_put_take_and_more_in_their_order(self):
        b = bench(late=LATE, empty=())
        for spot in (-1, 3, 1000, True, False, None, "0", (0,), [0], 10 ** 399, -10 ** 399):
            self.assert_stays(b, "Unfit()", b.put, "late", spot, (0, 1))
            self.assert_stays(b, "Unfit()", b.put, "late", spot, None)
            self.assert_stays(b, "Unfit()", b.take, "late", spot)
            self.assert_stays(b, f"NoName({'lamp'!r})", b.put, "lamp", spot, None)
            self.assert_stays(b, f"NoName({'lamp'!r})", b.take, "lamp", spot)
        for spot in (0, 1, -1):
            self.assert_stays(b, "Unfit()", b.take, "empty", spot)
            self.assert_stays(b, "Unfit()", b.put, "empty", spot, (0, 1))
        for gate in (None, (1, 0), (0, 0), (0, 3), [0, 1], (0, True), (0, 1, 2), "0-1", ((0, 1),), ()):
            for spot in (0, 1, 2):
                self.assert_stays(b, f"BadNetwork(('gate', {spot}))", b.put, "late", spot, gate)
            self.assert_stays(b, "BadNetwork(('gate', 3))", b.more, "late", gate)
            self.assert_stays(b, "BadNetwork(('gate', 0))", b.more, "empty", gate)
            self.assert_stays(b, "NoName('lamp')", b.more, "lamp", gate)

    def test_1000_gates(self):
        b = bench(long=((0, 1),) * 1000, less=((0, 1),) * 999)
        self.assert_stays(b, "BadNetwork('form')", b.more, "long", (0, 1))
        self.assert_stays(b, "BadNetwork('form')", b.more, "long", None)
        self.assert_same(b.more("less", (1, 2)), 3)
        self.assert_stays(b, "BadNetwork('form')", b.more, "less", (0, 1))
        self.assert_same(b.put("long", 999, (0, 2)), 4)
        self.assert_same(b["long"], ((0, 1),) * 999 + ((0, 2),))
        self.assert_same(b.take("long", 999), 5)
        self.assert_stays(b, "Unfit()", b.take, "long", 999)

    def test_told_of_values_of_all_sorts(self):
        orders = {repr(order) for order in ((), ((0, 1),))}
        wrong = [((0, 0),), ((1, 0),), ((0, 3),), ((0, 1), (0, 1)), ((1, 2), (0, 1)), [(0, 1)], ((0, True),)]
        for value in [*any_values(), *wrong]:
            b = bench(late=LATE)
            if repr(value) in orders:
                self.assert_same((b.told(value), b.order), (2, value))
            else:
                self.assert_stays(b, "Unfit()", b.told, value)
        for n in WORDY:
            b = Bench(n)
            for order in drawn_orders(n, 1)[:12]:
                b.told(order)
                self.assert_same(b.order, order)
            self.assert_stays(b, "Unfit()", b.told, ((0, n),))

    def test_values_of_all_sorts_as_networks_and_gates(self):
        for value in any_values():
            told = answer(SlowBench(3).edit, "add", "new", value)
            b = bench(late=LATE)
            if told == "1":
                self.assert_same((b.add("new", value), b["new"]), (2, value))
            else:
                self.assert_stays(b, told[7:], b.add, "new", value)
            b = bench(late=LATE)
            if repr(value) == "(0, 1)":
                self.assert_same((b.more("late", value), b.put("late", 1, value)), (2, 3))
            else:
                self.assert_stays(b, "BadNetwork(('gate', 3))", b.more, "late", value)
                self.assert_stays(b, "BadNetwork(('gate', 1))", b.put, "late", 1, value)
            if type(value) is int and 0 <= value < 3:
                self.assert_same(b.take("late", value), b.version)
            else:
                self.assert_stays(b, "Unfit()", b.take, "late", value)
                self.assert_stays(b, "Unfit()", b.put, "late", value, (0, 1))

    def test_forty_edits_and_no_more(self):
        b = full_bench()
        self.assert_same((b.version, len(b.log)), (40, 40))
        for call, *arguments in (
            (b.add, "new", LEAP), (b.drop, "late"), (b.call, "late", "new"), (b.put, "late", 0, (0, 1)),
            (b.take, "late", 0), (b.more, "late", (0, 1)), (b.told, ()), (b.batch, ()), (b.batch, (("drop", "late"),)),
        ):
            self.assert_stays(b, "TooManyEdits()", call, *arguments)
        # All that is wrong else is told ahead of that.
        for told, call, *arguments in (
            ("Unfit()", b.add, "", LEAP), ("Taken('late')", b.add, "late", LEAP), ("NoName('x')", b.drop, "x"),
            ("Taken('leap')", b.call, "late", "leap"), ("Unfit()", b.take, "late", 3), ("Unfit()", b.told, None),
            ("BadNetwork(('gate', 0))", b.put, "late", 0, None), ("BadNetwork(('gate', 3))", b.more, "late", None),
            ("BadBatch()", b.batch, None), ("Rejected(0)", b.batch, (("drop", "x"),)),
        ):
            self.assert_stays(b, told, call, *arguments)
        self.assert_same((b.undo(), b.redo(), b.undo()), (39, 40, 39))
        self.assert_same(b.drop("late"), 40)
        self.assert_stays(b, "TooManyEdits()", b.told, ())
        self.assert_stays(b, "NothingToRedo()", b.redo)

    def test_the_parts_of_batches_do_not_count(self):
        b = Bench(3)
        for version in range(1, 41):
            self.assert_same(b.batch((("told", LEAP),) * 8), version)
        self.assert_stays(b, "TooManyEdits()", b.batch, (("told", LEAP),) * 8)


class BatchTest(BenchCase):
    def test_none_to_eight_parts(self):
        for many in range(9):
            b = bench(late=LATE)
            edits = tuple(("more", "late", (0, k % 2 + 1)) for k in range(many))
            self.assert_same(b.batch(edits), 2)
            self.assert_same(b["late"], LATE + tuple((0, k % 2 + 1) for k in range(many)))
            self.assert_same(b.log[1], ("batch", edits))
            self.assert_same((b.undo(), b.shelf), (1, (("late", LATE),)))
            self.assert_same(b.redo(), 2)

    def test_nine_parts_are_too_many(self):
        b = bench(late=LATE)
        for many in (9, 10, 100):
            self.assert_stays(b, "BadBatch()", b.batch, (("told", ()),) * many)
            # That is told ahead of what is wrong with a part.
            self.assert_stays(b, "BadBatch()", b.batch, (("drop", "lamp"),) * many)

    def test_values_that_are_no_batches(self):
        right = ("told", ())
        wrong = [
            [], [right], (list(right),), ("told", ()), (("told",),), (("told", (), ()),), (("undo",),), (("redo",),),
            (("batch", ()),), (("batch", (right,)),), ((),), (("Told", ()),), (("keeps", "late"),), ((None, ()),),
            ((["told"], ()),), (("copy",),), (("at", 0),), (("drop",),), (("drop", "late", 1),), (("add", "new"),),
            (("put", "late", 0),), (("take", "late"),), (("more", "late"),), (("call", "late"),), (("told ", ()),),
            (right, None), (right, right, ["told", ()]), {0: right}, "told", (0,), (True,), ((0, 1),),
            (("attempt", None),), (("",),), (("add", "new", LEAP, None),),
        ]
        for value in [*wrong, *any_values()]:
            if repr(value) != "()":
                b = bench(late=LATE)
                self.assert_stays(b, "BadBatch()", b.batch, value)
                if type(value) is tuple:
                    # No part is done if one has no right form.
                    self.assert_stays(b, "BadBatch()", b.batch, (("drop", "lamp"), *value[:7]))
        for value in any_values():
            b = bench(late=LATE)
            self.assert_stays(b, "BadBatch()", b.batch, (value,))
            self.assert_stays(b, "BadBatch()", b.batch, ((value,),))
            self.assert_stays(b, "BadBatch()", b.batch, ((value, value),))

    def test_right_forms_with_wrong_values_are_rejected(self):
        for word, many in ARGUMENTS.items():
            for value in any_values():
                b = bench(late=LATE)
                edits = (("told", LEAP), (word,) + (value,) * many)
                told = answer(SlowBench(3).edit, "batch", edits)
                if told == "1":
                    self.assert_same(b.batch(edits), 2)
                else:
                    self.assert_stays(b, "Rejected(1)", b.batch, edits)

    def test_the_place_of_the_first_part_that_raises(self):
        for place in range(8):
            for last in (("drop", "lamp"), ("told", None), ("add", "late", LEAP), ("take", "late", 99)):
                b = bench(late=LATE)
                edits = (("told", LEAP),) * place + (last,) * (8 - place)
                self.assert_stays(b, f"Rejected({place})", b.batch, edits)
        b = bench(late=LATE)
        self.assert_stays(b, "Rejected(1)", b.batch, (("drop", "late"), ("drop", "late"), ("add", "x", LEAP)))

    def test_parts_are_done_on_what_the_ones_ahead_have_left(self):
        b = bench(late=LATE)
        edits = (
            ("add", "a", ()), ("more", "a", (0, 1)), ("put", "a", 0, (1, 2)), ("call", "a", "b"), ("drop", "late"),
            ("told", LEAP), ("take", "b", 0), ("add", "a", LATE),
        )
        self.assert_same(b.batch(edits), 2)
        self.assert_same((b.order, b.shelf), (LEAP, (("a", LATE), ("b", ()))))
        self.assert_same((b.undo(), b.order, b.shelf), (1, (), (("late", LATE),)))
        self.assert_same((b.redo(), b.order, b.shelf), (2, LEAP, (("a", LATE), ("b", ()))))

    def test_names_within_a_batch(self):
        b = named_bench(6)
        self.assert_stays(b, "Rejected(0)", b.batch, (("add", "g", LEAP), ("drop", "a")))
        self.assert_same(b.batch((("drop", "a"), ("add", "g", LEAP))), 7)
        self.assert_stays(b, "Rejected(2)", b.batch, (("drop", "b"), ("add", "h", LEAP), ("add", "i", LEAP)))

    def test_a_rejected_batch_keeps_what_was_taken_back(self):
        b = bench(late=LATE, leap=LEAP)
        b.undo()
        self.assert_stays(b, "Rejected(1)", b.batch, (("told", LEAP), ("drop", "leap")))
        self.assert_same((b.redo(), list(b)), (2, ["late", "leap"]))


class QuestionsTest(BenchCase):
    def test_what_is_asked_is_what_the_functions_tell(self):
        for n in WORDY:
            draw = random.Random(n)
            b, made = Bench(n), []
            networks = drawn_networks(n, 2, 20)
            for _ in range(6):
                b.add("abcdef"[len(b)], draw.choice(networks))
            for order in ((), *draw.sample(drawn_orders(n, 2), 3)):
                b.told(order)
                for name in b:
                    other = draw.choice(list(b))
                    self.assert_same(b.keeps(name), keeps_ties(n, order, b[name]), n, order, b[name])
                    self.assert_same(b.image_of(name), image(n, b[name]))
                    made.append(b.made)
                    told = unlike_word(n, order, b[name], b[other]) is None
                    self.assert_same(b.alike(name, other), told, n, order, b[name], b[other])
                    made.append(b.made)
                self.assertEqual(made, sorted(made))

    def test_accounts_are_made_once(self):
        b = bench(late=LATE, leap=LEAP, same=LATE)
        told = [b.keeps("late"), b.made, b.keeps("late"), b.made, b.keeps("same"), b.made]
        self.assert_same(told, [False, 1, False, 1, False, 1])
        told = [b.alike("late", "same"), b.made, b.alike("late", "leap"), b.made, b.keeps("leap"), b.made]
        self.assert_same(told, [True, 1, False, 2, False, 2])
        b.told(LEAP)
        told = [b.made, b.alike("leap", "leap"), b.made, b.alike("late", "leap"), b.made, b.keeps("late"), b.made]
        self.assert_same(told, [2, True, 3, False, 4, True, 4])
        b.undo()
        self.assert_same([b.keeps("late"), b.alike("late", "leap"), b.made], [False, False, 4])
        b.redo()
        b.told(((0, 1),))
        b.told(LEAP)
        self.assert_same([b.keeps("late"), b.alike("late", "leap"), b.made], [True, False, 4])
        b.drop("late")
        b.add("other", LATE)
        self.assert_same([b.keeps("other"), b.made], [True, 4])

    def test_orders_that_let_the_same_rows_have_accounts_of_their_own(self):
        b = bench(late=LATE)
        b.told(((0, 1), (1, 2)))
        self.assert_same([b.keeps("late"), b.made], [True, 1])
        b.told(((0, 1), (0, 2), (1, 2)))
        self.assert_same([b.keeps("late"), b.made], [True, 2])

    def test_images_need_no_account(self):
        b = bench(late=LATE, two=((0, 1), (1, 2)), empty=())
        for name, told in (("late", (1, 2, 3)), ("two", (2, 1, 3)), ("empty", (3, 2, 1))):
            self.assert_same((b.image_of(name), b.made), (told, 0))
        b.told(((0, 1), (1, 2)))
        self.assert_same((b.image_of("late"), b.made), ((1, 2, 3), 0))

    def test_what_raises_makes_nothing(self):
        b = bench(late=LATE)
        for call, *arguments in (
            (b.keeps, "lamp"), (b.alike, "late", "lamp"), (b.alike, "lamp", "late"), (b.image_of, "lamp"),
            (b.alike, "late", None), (b.keeps, LATE), (b.drop, "lamp"), (b.told, None),
        ):
            given = arguments[-1] if arguments[0] == "late" else arguments[0]
            told = "Unfit()" if call == b.told else f"NoName({given!r})"
            self.assert_stays(b, told, call, *arguments)
            self.assert_same(b.made, 0)
        # Of two names that are not there the first one is told.
        self.assert_stays(b, "NoName('x')", b.alike, "x", "y")
        self.assert_stays(b, "NoName(['x'])", b.alike, ["x"], {"y": 1})

    def test_questions_change_nothing_else(self):
        b = bench(late=LATE, leap=LEAP)
        b.undo()
        before = self.told_of(b), self.undone_of(b)
        b.image_of("late")
        self.assert_same((self.told_of(b), self.undone_of(b)), before)
        b.keeps("late")
        b.alike("late", "late")
        self.assert_same(b.made, 1)
        told = self.told_of(b)
        told[5] = 0
        self.assert_same(told, before[0])

    def test_ten_lines_and_1000_gates_take_no_long_time(self):
        began = time.process_time()
        b = bench(10, a=(all_pairs(10) * 30)[:1000], b=sorter(10) * 20, c=((0, 1),) * 999 + ((0, 9),))
        for order in ((), ((0, 9),), tuple((p, p + 1) for p in range(9))):
            b.told(order)
            self.assert_same(b.alike("a", "b"), True)
            self.assert_same([b.keeps(name) for name in b], [len(order) == 9, True, order != ()])
            b.alike("a", "c")
        self.assert_same(b.made, 9)
        self.assertLess(time.process_time() - began, 5)


class UndoTest(BenchCase):
    def test_nothing_to_undo_and_nothing_to_redo(self):
        for n in WORDY:
            b = Bench(n)
            self.assert_stays(b, "NothingToUndo()", b.undo)
            self.assert_stays(b, "NothingToRedo()", b.redo)
        b = bench(late=LATE)
        self.assert_stays(b, "NothingToRedo()", b.redo)
        b.undo()
        self.assert_stays(b, "NothingToUndo()", b.undo)
        b.redo()
        self.assert_stays(b, "NothingToRedo()", b.redo)

    def test_all_the_way_back_and_on_again(self):
        b = full_bench()
        told = [self.told_of(b)]
        for version in range(39, -1, -1):
            self.assert_same((b.undo(), b.version, len(b.log)), (version,) * 3)
            told.append(self.told_of(b))
        for version in range(1, 41):
            told.pop()
            self.assert_same(b.redo(), version)
            self.assert_same(self.told_of(b), told[-1])

    def test_an_edit_that_is_done_anew_forgets_what_was_taken_back(self):
        b = bench(late=LATE, leap=LEAP)
        b.undo()
        b.told(LEAP)
        self.assert_stays(b, "NothingToRedo()", b.redo)
        b.undo()
        b.undo()
        self.assert_same((b.redo(), b.redo(), b.order), (1, 2, LEAP))
        b.undo()
        self.assert_stays(b, "Unfit()", b.told, None)
        self.assert_same((b.redo(), b.order), (2, LEAP))

    def test_the_same_edit_done_anew_forgets_too(self):
        b = bench(late=LATE, leap=LEAP)
        b.undo()
        b.undo()
        b.add("late", LATE)
        self.assert_stays(b, "NothingToRedo()", b.redo)

    def test_at_each_version_that_stands(self):
        b = bench(late=LATE, leap=LEAP)
        b.told(LEAP)
        told = [((), ()), ((), (("late", LATE),)), ((), (("late", LATE), ("leap", LEAP)))]
        told.append((LEAP, told[2][1]))
        self.assert_same([b.at(version) for version in range(4)], told)
        b.undo()
        self.assert_same([b.at(version) for version in range(3)], told[:3])
        self.assert_stays(b, "NoVersion(3)", b.at, 3)
        b.drop("late")
        self.assert_same(b.at(3), ((), (("leap", LEAP),)))
        for value in [*any_values(), -1, 4, 100, 3.5, "0"]:
            if type(value) is not int or not 0 <= value <= 3:
                self.assert_stays(b, f"NoVersion({value!r})", b.at, value)
        self.assert_same(b.at(b.version), (b.order, b.shelf))

    def test_no_version_holds_what_was_handed_in(self):
        for value in any_values():
            if repr(value) != "0":
                with self.assertRaises(NoVersion) as context:
                    Bench(3).at(value)
                self.assertIs(context.exception.given, value)


class CopyTest(BenchCase):
    def test_a_copy_tells_the_same_and_goes_on_by_itself(self):
        b = bench(late=LATE, leap=LEAP)
        b.told(LEAP)
        b.keeps("late")
        b.undo()
        b.undo()
        twin = b.copy()
        self.assertIs(type(twin), Bench)
        self.assertIsNot(twin, b)
        self.assertTrue(twin == b)
        self.assert_same((self.told_of(twin), self.undone_of(twin)), (self.told_of(b), self.undone_of(b)))
        before = self.told_of(b), self.undone_of(b)
        twin.keeps("late")
        twin.redo()
        twin.drop("late")
        self.assert_same((self.told_of(b), self.undone_of(b)), before)
        before = self.told_of(twin), self.undone_of(twin)
        b.redo()
        b.redo()
        b.alike("late", "leap")
        b.undo()
        b.told(BUBBLE[:0])
        self.assert_same((self.told_of(twin), self.undone_of(twin)), before)

    def test_accounts_are_kept_in_copies(self):
        b = bench(late=LATE)
        b.keeps("late")
        twin = b.copy()
        self.assert_same([twin.made, twin.keeps("late"), twin.made], [1, False, 1])
        twin.told(LEAP)
        self.assert_same([twin.keeps("late"), twin.made, b.made], [True, 2, 1])
        b.told(((0, 1),))
        b.told(LEAP)
        self.assert_same([b.keeps("late"), b.made], [True, 2])

    def test_a_new_bench_copied(self):
        for n in WORDY:
            twin = Bench(n).copy()
            self.assert_same(self.told_of(twin), self.told_of(Bench(n)))
            self.assert_stays(twin, "NothingToUndo()", twin.undo)

    def test_a_full_bench_copied(self):
        twin = full_bench().copy()
        self.assert_stays(twin, "TooManyEdits()", twin.told, ())
        self.assert_same(twin.undo(), 39)


class AttemptTest(BenchCase):
    def test_what_work_returns_is_returned(self):
        b = bench(late=LATE)
        for value in any_values():
            self.assertIs(b.attempt(lambda given: value), value)
        self.assertIs(b.attempt(lambda given: given), b)
        self.assert_same(b.attempt(lambda given: given.told(LEAP)), 2)
        self.assert_same((b.order, b.version), (LEAP, 2))
        self.assert_same((b.undo(), b.order), (1, ()))

    def test_an_error_of_the_package_takes_all_back_but_accounts(self):
        b = bench(late=LATE, leap=LEAP)
        b.told(LEAP)
        b.undo()
        before = self.told_of(b), self.undone_of(b)

        def work(given):
            given.undo()
            given.add("new", BUBBLE)
            given.told(((0, 1),))
            given.keeps("new")
            given.alike("late", "new")
            given.drop("lamp")

        self.assert_raises("NoName('lamp')", b.attempt, work)
        self.assert_same(b.made, 2)
        for told in (before[0], *before[1]):
            told[5] = 2
        self.assert_same((self.told_of(b), self.undone_of(b)), before)
        self.assert_same((b.redo(), b.order), (3, LEAP))

    def test_each_error_of_the_package_and_those_of_others(self):
        class OwnError(TiesError):
            pass

        for error in (TiesError(), Unfit(), Taken(["x"]), OwnError("x")):
            b = bench(late=LATE)

            def work(given):
                given.undo()
                raise error

            with self.assertRaises(TiesError) as context:
                b.attempt(work)
            self.assertIs(context.exception, error)
            self.assert_same((b.version, b.shelf), (1, (("late", LATE),)))
        for error in (ValueError("x"), KeyError("x"), RuntimeError(), ZeroDivisionError(), AssertionError()):
            b = bench(late=LATE)

            def work(given):
                given.undo()
                given.told(LEAP)
                raise error

            with self.assertRaises(type(error)) as context:
                b.attempt(work)
            self.assertIs(context.exception, error)
            self.assert_same((b.version, b.shelf, b.order), (1, (), LEAP))
            self.assert_stays(b, "NothingToRedo()", b.redo)

    def test_errors_that_work_catches_take_nothing_back(self):
        b = bench(late=LATE)

        def work(given):
            given.told(LEAP)
            try:
                given.drop("lamp")
            except NoName as error:
                return error.given

        self.assert_same((b.attempt(work), b.order, b.version), ("lamp", LEAP, 2))

    def test_works_within_works(self):
        def inner(given):
            given.add("inner", LEAP)
            given.drop("lamp")

        def outer(given):
            given.add("outer", BUBBLE)
            try:
                given.attempt(inner)
            except NoName:
                pass
            return given.log

        b = bench(late=LATE)
        self.assert_same(b.attempt(outer), (("add", "late", LATE), ("add", "outer", BUBBLE)))
        self.assert_same(list(b), ["late", "outer"])

        def outermost(given):
            given.drop("late")
            given.attempt(outer)
            return given.attempt(inner)

        b = bench(late=LATE)
        self.assert_stays(b, "NoName('lamp')", b.attempt, outermost)
        self.assert_same(b.attempt(lambda given: given.attempt(lambda again: again.attempt(Bench.undo))), 0)

    def test_another_error_within_takes_nothing_back_but_what_is_around_does(self):
        def inner(given):
            given.drop("late")
            raise KeyError("inner")

        def outer(given):
            given.told(LEAP)
            try:
                given.attempt(inner)
            except KeyError:
                given.keeps("late")

        b = bench(late=LATE)
        self.assert_stays(b, "NoName('late')", b.attempt, outer)
        with self.assertRaises(KeyError):
            b.attempt(inner)
        self.assert_same((b.version, len(b)), (2, 0))

    def test_too_many_edits_in_a_work(self):
        def work(given):
            for _ in range(41):
                given.told(LEAP)

        b = bench(late=LATE)
        self.assert_stays(b, "TooManyEdits()", b.attempt, work)
        self.assert_same(b.version, 1)

    def test_a_work_that_edits_by_another_way(self):
        b = bench(late=LATE)

        def work(given):
            b.told(LEAP)
            given.undo()
            b.undo()
            raise Unfit()

        self.assert_stays(b, "Unfit()", b.attempt, work)

    def test_the_copy_of_a_bench_in_a_work_stays(self):
        b = bench(late=LATE)
        kept = []

        def work(given):
            given.told(LEAP)
            kept.append(given.copy())
            raise Unfit()

        self.assert_raises("Unfit()", b.attempt, work)
        self.assert_same((kept[0].order, kept[0].version, b.order), (LEAP, 2, ()))


class DrawnTest(BenchCase):
    def draw_name(self, draw, names):
        if names and draw.randrange(8):
            return draw.choice(names)
        return draw.choice(("a", "b", "c", "zzzzzzzz", "none", "B", None, ["a"], "aaaaaaaaa", ""))

    def draw_gate(self, draw, n):
        wrong = ((1, 0), None, (0, n), (0, True), [0, 1])
        return draw.choice((*all_pairs(n) * 3, draw.choice(wrong)))

    def draw_edit(self, draw, n, names):
        """Return the word of an edit and arguments for it, mostly right ones."""
        word = draw.choice(("add", "add", "more", "more", *ARGUMENTS))
        name, other = self.draw_name(draw, names), self.draw_name(draw, names)
        spot = draw.choice((0, 0, 0, 0, 1, 1, 2, 3, -1, True, None))
        network = tuple(draw.choices(all_pairs(n), k=draw.randrange(5)))
        order = tuple(sorted(set(draw.choices(all_pairs(n), k=draw.randrange(3)))))
        if word in ("add", "call") and draw.randrange(2):
            name, other = (draw.choice("abcdefgh"), "") if word == "add" else (name, draw.choice("abcdefgh"))
        return {
            "add": (word, name, draw.choice((network, network, network, BUBBLE, None, (None,)))),
            "drop": (word, name),
            "call": (word, name, other),
            "put": (word, name, spot, self.draw_gate(draw, n)),
            "take": (word, name, spot),
            "more": (word, name, self.draw_gate(draw, n)),
            "told": (word, draw.choice((order, order, order, (), None, order[::-1]))),
        }[word]

    def draw_step(self, draw, n, names, back=1):
        """Return the word of a method and arguments for it; steps back come so often."""
        others = ("batch", "redo", "at", "keeps", "keeps", "alike", "alike", "image_of", "copy")
        word = draw.choice(("edit",) * 12 + ("undo",) * back + others)
        if word == "edit":
            return self.draw_edit(draw, n, names)
        if word == "batch":
            edits = tuple(self.draw_edit(draw, n, names) for _ in range(draw.choice((0, 1, 1, 2, 2, 3, 8, 9))))
            return word, draw.choice((edits, edits, edits, edits, list(edits), edits + (("batch", ()),)))
        if word == "at":
            return word, draw.choice((0, 1, 2, 5, 10, 40, True, None))
        many = {"keeps": 1, "alike": 2, "image_of": 1}.get(word, 0)
        return (word, *[self.draw_name(draw, names) for _ in range(many)])

    def do(self, slow, word, *arguments):
        if word == "batch" or word in ARGUMENTS:
            return slow.edit(word, *arguments)
        return getattr(slow, word)(*arguments)

    def check(self, b, slow):
        order, networks = slow.state(len(slow.edits))
        shelf = tuple((name, networks[name]) for name in sorted(networks))
        told = [slow.n, order, shelf, len(slow.edits), tuple(slow.edits), len(slow.accounts), len(networks)]
        self.assert_same([b.n, b.order, b.shelf, b.version, b.log, b.made, len(b)], told)
        self.assert_same((list(b), [b[name] for name in b]), (sorted(networks), [pair[1] for pair in shelf]))

    def go(self, draw, n, many, back):
        b, slow = Bench(n), SlowBench(n)
        for _ in range(many):
            word, *arguments = self.draw_step(draw, n, list(b), back)
            made = b.made
            if word == "copy":
                b = b.copy()
            else:
                told = answer(self.do, slow, word, *arguments)
                self.assertEqual(answer(getattr(b, word), *arguments), told, (word, arguments, slow.edits))
            self.assertLessEqual(made, b.made)
            self.assertLessEqual(b.made, made + {"keeps": 1, "alike": 2}.get(word, 0))
            self.check(b, slow)
        return b

    def test_many_steps_of_all_sorts(self):
        versions = []
        for seed in range(150):
            draw = random.Random(seed)
            b = self.go(draw, draw.choice((2, 3, 3, 4)), draw.choice((30, 60, 200)), draw.choice((1, 1, 3, 8)))
            versions.append(b.version)
            # On a new bench the same edits make the same.
            other = Bench(b.n)
            for word, *arguments in b.log:
                getattr(other, word)(*arguments)
            self.assertTrue(other == b)
            self.assertFalse(other != b)
            self.assert_same(b.at(b.version), (b.order, b.shelf))
        self.assertEqual(max(versions), 40)

    def test_works_of_all_sorts(self):
        found = {True: 0, False: 0}
        for seed in range(80):
            draw = random.Random(seed)
            b = self.go(draw, 3, 20, 3)
            steps = [self.draw_step(draw, 3, list(b), 3) for _ in range(draw.randrange(1, 5))]
            before = self.told_of(b), self.undone_of(b)
            twin = b.copy()

            def work(given):
                return [getattr(given, word)(*arguments) for word, *arguments in steps]

            told = answer(work, twin)
            raises = told.startswith("raises")
            self.assertEqual(answer(b.attempt, work).startswith("raises"), raises)
            found[raises] += 1
            if raises:
                for state in (before[0], *before[1]):
                    state[5] = twin.made
                self.assert_same((self.told_of(b), self.undone_of(b)), before)
            else:
                self.assert_same((self.told_of(b), self.undone_of(b)), (self.told_of(twin), self.undone_of(twin)))
        self.assertGreater(min(found.values()), 10)


class ValuesTest(BenchCase):
    def test_what_is_handed_in_stays_as_it_was(self):
        for value in any_values():
            kept = copy.deepcopy(value)
            b = bench(late=LATE)
            for name, parameters in METHODS.items():
                if name != "attempt":
                    answer(getattr(b, name), *[value] * len(parameters))
            answer(Bench, value)
            self.assert_same(value, kept)

    def test_what_was_returned_stays_as_it_was(self):
        b = bench(late=LATE, leap=LEAP)
        told = self.told_of(b)
        kept = repr(told)
        b.told(LEAP)
        b.put("late", 0, (1, 2))
        b.undo()
        b.drop("late")
        b.keeps("leap")
        self.assertEqual(repr(told), kept)

    def test_calls_by_name(self):
        def pairs():
            return bench(late=LATE, leap=LEAP), bench(late=LATE, leap=LEAP)

        calls = {
            "add": {"name": "new", "network": BUBBLE}, "drop": {"name": "late"}, "call": {"name": "late", "other": "x"},
            "put": {"name": "late", "spot": 1, "gate": (1, 2)}, "take": {"name": "late", "spot": 2},
            "more": {"name": "leap", "gate": (0, 1)}, "told": {"order": LEAP}, "batch": {"edits": (("told", LEAP),)},
            "keeps": {"name": "late"}, "alike": {"name": "late", "other": "leap"}, "image_of": {"name": "late"},
            "at": {"version": 1}, "attempt": {"work": len},
        }
        for name, named in calls.items():
            one, other = pairs()
            told = answer(getattr(one, name), *named.values())
            self.assertFalse(told.startswith("raises"), (name, told))
            self.assertEqual(answer(getattr(other, name), **named), told)
            self.assert_same(self.told_of(one), self.told_of(other))
            one, other = pairs()
            self.assertEqual(answer(getattr(other, name), **dict(reversed(named.items()))), told)

    def test_the_image_is_what_comes_out_of_the_descending_row(self):
        for n in WORDY:
            for network in drawn_networks(n, 3)[:10]:
                told = slow_run(network, tuple(range(n, 0, -1)))[0]
                self.assert_same(bench(n, a=network).image_of("a"), told)
