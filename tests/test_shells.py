"""[G6], and what [G2] to [G4] say of it."""

import copy
import inspect
import random
import re

from tests.anyvalues import any_values
from tests.same import SameTest, answer
from tests.samples import WORDY, all_pairs, drawn_networks, drawn_orders
from tieskept import shells
from tieskept.benches import Bench
from tieskept.errors import TiesError
from tieskept.networktexts import network_text
from tieskept.shells import Shell

NAME = "([^ ]+)"
SPOT = "(0|[1-9][0-9]*)"
LINES = {
    "add": f"add {NAME} (.*)", "drop": f"drop {NAME}", "call": f"call {NAME} {NAME}", "take": f"take {NAME} {SPOT}",
    "told": "told (.*)", "undo": "undo", "redo": "redo", "names": "names", "show": f"show {NAME}", "order": "order",
    "keeps": f"keeps {NAME}", "alike": f"alike {NAME} {NAME}", "image": f"image {NAME}", "made": "made",
}


def gates_of(n, text):
    """Return the gates of which text is the text, None if there are none such."""
    if text == "none":
        return ()
    told = {f"{i}-{j}": (i, j) for i, j in all_pairs(n)}
    gates = re.split(" ", text)
    return tuple(told[gate] for gate in gates) if set(gates) <= set(told) and len(gates) <= 1000 else None


class SlowShell:
    """A shell that tries each sort of line in turn."""

    def __init__(self, n):
        self.bench = Bench(n)

    def say(self, line):
        for word, pattern in LINES.items():
            match = re.fullmatch(pattern, line, re.DOTALL) if type(line) is str else None
            if match:
                try:
                    return self.answer(word, *match.groups())
                except TiesError as error:
                    return f"error {type(error).__name__}"
        return "what"

    def answer(self, word, *texts):
        b = self.bench
        if word in ("add", "told"):
            told = gates_of(b.n, texts[-1])
            if told is None or word == "told" and list(told) != sorted(set(told)):
                return "what"
            texts = (*texts[:-1], told)
        if word == "take":
            # Python reads no numbers of many thousand figures.
            texts = (texts[0], int(texts[1]) if len(texts[1]) < 9 else 10 ** 9)
        if word in ("add", "drop", "call", "take", "told", "undo", "redo"):
            return "version " + str(getattr(b, word)(*texts))
        if word in ("keeps", "alike"):
            return {True: "yes", False: "no"}[getattr(b, word)(*texts)]
        if word == "image":
            return " ".join(str(key) for key in b.image_of(*texts))
        if word == "names":
            return " ".join(b) if len(b) else "none"
        return {"show": lambda: network_text(b[texts[0]]), "order": lambda: network_text(b.order),
                "made": lambda: str(b.made)}[word]()


class ShellCase(SameTest):
    def assert_says(self, shell, **told):
        """The shell answers each line as told; underscores stand for blanks."""
        for line, wanted in told.items():
            self.assert_same(shell.say(line.replace("_", " ")), wanted, line)

    def assert_all(self, shell, lines, wanted):
        for line in lines:
            self.assert_same(shell.say(line), wanted, line)

    def after(self, *lines, n=3):
        """Return a shell that was told these lines; none of them is wrong."""
        shell = Shell(n)
        for line in lines:
            self.assertRegex(shell.say(line), "version [0-9]+\\Z", line)
        return shell


class NewShellTest(ShellCase):
    def test_numbers_of_lines(self):
        for n in WORDY:
            for shell in (Shell(n), Shell(n=n)):
                self.assert_says(shell, names="none", order="none", made="0", undo="error NothingToUndo")
                self.assert_says(shell, redo="error NothingToRedo")
                self.assert_same(shell.say(f"add a 0-{n - 1}"), "version 1")
                self.assert_same(shell.say(f"add b 0-{n}"), "what")
        for value in [*any_values(), -1, 0, 1, 11, 24, 3.0, "3", Bench(3)]:
            if type(value) is not int or not 2 <= value <= 10:
                self.assert_raises("Unfit()", Shell, value)

    def test_what_the_interface_lists_is_defined_in_the_class_itself(self):
        self.assertEqual(list(inspect.signature(vars(Shell)["say"]).parameters), ["self", "line"])
        self.assertTrue(inspect.isfunction(vars(Shell)["__init__"]))
        self.assertEqual(Shell.__module__, shells.__name__)

    def test_calls_by_name(self):
        self.assert_same(Shell(n=3).say(line="names"), "none")

    def test_each_shell_has_a_bench_of_its_own(self):
        one, other = self.after("add a none"), self.after("add b none")
        self.assert_says(one, names="a")
        self.assert_says(other, names="b")


class LinesTest(ShellCase):
    def test_each_line(self):
        shell = Shell(4)
        for line, told in (
            ("names", "none"), ("order", "none"), ("made", "0"), ("add late 0-1 0-2 1-2", "version 1"),
            ("names", "late"), ("show late", "0-1 0-2 1-2"), ("add empty none", "version 2"), ("show empty", "none"),
            ("names", "empty late"), ("keeps late", "no"), ("made", "1"), ("keeps empty", "yes"), ("made", "2"),
            ("told 0-2 1-3", "version 3"), ("order", "0-2 1-3"), ("keeps late", "yes"), ("alike late empty", "no"),
            ("made", "4"), ("alike late late", "yes"), ("image late", "2 3 4 1"), ("image empty", "4 3 2 1"),
            ("call late last", "version 4"), ("names", "empty last"), ("take last 1", "version 5"),
            ("show last", "0-1 1-2"), ("drop empty", "version 6"), ("names", "last"), ("undo", "version 5"),
            ("names", "empty last"), ("redo", "version 6"), ("redo", "error NothingToRedo"),
            ("told none", "version 7"), ("order", "none"), ("take last 0", "version 8"), ("take last 0", "version 9"),
            ("show last", "none"), ("take last 0", "error Unfit"), ("image last", "4 3 2 1"),
        ):
            self.assert_same(shell.say(line), told, line)

    def test_the_errors(self):
        shell = self.after("add late 0-1 0-2 1-2", "add leap 0-2")
        for line, told in (
            ("add late none", "Taken"), ("add none none", "Unfit"), ("add Late 0-1", "Unfit"), ("add 1 0-1", "Unfit"),
            ("add abcdefghi 0-1", "Unfit"), ("drop lamp", "NoName"), ("drop 1", "NoName"), ("call lamp x", "NoName"),
            ("call late leap", "Taken"), ("call late late", "Taken"), ("call late none", "Unfit"),
            ("call late X", "Unfit"), ("call lamp X", "NoName"), ("take late 3", "Unfit"), ("take leap 1", "Unfit"),
            ("take lamp 0", "NoName"), ("take lamp 99", "NoName"), ("show lamp", "NoName"), ("keeps lamp", "NoName"),
            ("keeps none", "NoName"), ("alike late lamp", "NoName"), ("alike lamp late", "NoName"),
            ("image lamp", "NoName"), ("redo", "NothingToRedo"), ("show LATE", "NoName"), ("add - none", "Unfit"),
        ):
            self.assert_same(shell.say(line), "error " + told, line)
        self.assert_says(shell, names="late leap", made="0", undo="version 1")

    def test_too_many_names_and_edits(self):
        shell = self.after(*[f"add {name} none" for name in "abcdef"])
        self.assert_says(shell, add_g_none="error TooMany", add_a_none="error Taken")
        for version in range(7, 41):
            self.assert_same(shell.say("told 0-1"), f"version {version}")
        self.assert_says(shell, told_none="error TooManyEdits", drop_a="error TooManyEdits", drop_g="error NoName")
        self.assert_says(shell, undo="version 39", redo="version 40", names="a b c d e f")
        for version in range(39, -1, -1):
            self.assert_says(shell, undo=f"version {version}")
        self.assert_says(shell, undo="error NothingToUndo", names="none")

    def test_more_blanks_and_fewer(self):
        shell = self.after("add late 0-1 0-2 1-2", "add leap 0-2")
        right = [
            "add new 0-1 1-2", "drop late", "call late new", "take late 0", "told 0-1 0-2", "undo", "redo", "names",
            "show late", "order", "keeps late", "alike late leap", "image late", "made", "add new none", "told none",
        ]
        for line in right:
            wrong = [" " + line, line + " ", "  " + line, line + "  ", line + " x", line + " 0-1 x"]
            spots = [spot for spot, sign in enumerate(line) if sign == " "]
            wrong += [line[:spot] + " " + line[spot:] for spot in spots]
            wrong += [line[:spot] + line[spot + 1:] for spot in spots if line[:spot] in LINES]
            wrong += [line[:spot] + "\n" + line[spot + 1:] for spot in spots[:1]]
            wrong += ["\n" + line, line.upper(), line + line, line.capitalize()]
            if spots:
                wrong += [line[:spots[0]], line[:spots[0] + 1]]
            self.assert_all(shell, wrong, "what")
        for line in (
            "add", "add ", "add new", "add new ", "add  none", "add  0-1", "drop", "drop ", "call late", "call late ",
            "call  late", "take late", "take  0", "told", "told ", "undo late", "redo 1", "names all", "order 0-1",
            "made 0", "alike late", "", " ", "show late leap", "keeps late leap", "image late leap", "call late a b",
            "take late 0 0", "drop late leap", "alike late leap late", "show", "image",
        ):
            self.assert_same(shell.say(line), "what", line)
        self.assert_says(shell, names="late leap", undo="version 1")

    def test_words_that_are_none(self):
        shell = self.after("add late 0-1 0-2 1-2")
        lines = ["put late 0 0-1", "more late 0-1", "batch", "at 0", "copy", "attempt", "image_of late", "shelf", "log"]
        lines += ["version", "n", "adds late none", "ad late none", "none", "what", "error", "yes", "0-1", "late"]
        self.assert_all(shell, lines, "what")

    def test_line_feeds_are_signs_like_others(self):
        shell = self.after("add late 0-1 0-2 1-2")
        lines = ["names\n", "\nnames", "undo\n", "made\n", "order\n", "add new 0-1\n", "add new 0-1\n1-2", "\n"]
        lines += ["told 0-1\n", "told none\n", "add new none\n", "add\nnew none", "take late \n0", "names\nnames"]
        self.assert_all(shell, [*lines, "take late 0\n"], "what")
        lines = ["drop late\n", "drop \n", "show \nlate", "keeps late\nleap", "alike late late\n", "call \n a"]
        lines += ["take late\n 0", "drop la\nte", "image \n"]
        self.assert_all(shell, lines, "error NoName")
        lines = ["add new\n none", "add \n 0-1", "call late a\n", "add a\nb none", "add new\n0-1 1-2"]
        self.assert_all(shell, lines, "error Unfit")
        self.assert_says(shell, names="late")

    def test_texts_that_are_none(self):
        shell = self.after("add late 0-1 0-2 1-2")
        texts = ["1-0", "0-3", "0-0", "00-1", "0-01", "0-1  1-2", "0-1,1-2", "none none", "none 0-1", "0-1 none", "-"]
        texts += ["None", "()", "((0, 1),)", "0-1-2", " none", "0_1", "0-1 1-0", "0-1 ", "-0-1", "0--1", "+0-1"]
        texts += ["0", "0-1\n", " ".join(["0-1"] * 1001), "0-" + "1" * 9000]
        for text in texts:
            self.assert_same(shell.say("add new " + text), "what", text)
            # That there is no text is told ahead of all that is wrong else.
            self.assert_same(shell.say("add none " + text), "what", text)
            self.assert_same(shell.say("add late " + text), "what", text)
            self.assert_same(shell.say("told " + text), "what", text)
        self.assert_same(shell.say("add new " + " ".join(["0-1"] * 1000)), "version 2")

    def test_orders_that_are_none(self):
        shell = self.after("add late 0-1 0-2 1-2")
        for text in ("1-2 0-2", "0-1 0-1", "0-2 0-1", "0-1 1-2 0-2", "1-2 1-2"):
            self.assert_same(shell.say("told " + text), "what", text)
        self.assert_says(shell, order="none", told_0="what", told_late="what")
        for n in WORDY:
            for order in drawn_orders(n, 1):
                shell = Shell(n)
                self.assert_same(shell.say("told " + network_text(order)), "version 1")
                self.assert_same(shell.say("order"), network_text(order))

    def test_spots(self):
        shell = self.after("add late 0-1 0-2 1-2", "add long " + " ".join(["0-1"] * 1000))
        wrong = ["00", "01", "02", "000", "-1", "+1", "-0", "1.0", "0x1", "1_0", "one", "1e0", "(1)", "\n1", "1\n"]
        for spot in [*wrong, "0 1", "", " ", "0" * 9000, "0" + "9" * 9000, "9" * 9000 + "x", "-" + "9" * 9000]:
            self.assert_same(shell.say("take late " + spot), "what", spot[:9])
            self.assert_same(shell.say("take lamp " + spot), "what", spot[:9])
        for spot in ("3", "9", "10", "99", "1000", "9999", "10000", "99999", "1" + "0" * 4299, "9" * 4301, "1" * 19980):
            self.assert_same(shell.say("take late " + spot), "error Unfit", spot[:9])
            self.assert_same(shell.say("take lamp " + spot), "error NoName", spot[:9])
        self.assert_same(shell.say("take long 1000"), "error Unfit")
        self.assert_same(shell.say("take long 999"), "version 3")
        self.assert_same(shell.say("take long 999"), "error Unfit")
        self.assert_same(shell.say("take long 998"), "version 4")
        self.assert_same(shell.say("take late 2"), "version 5")
        self.assert_same(shell.say("take late 0"), "version 6")
        self.assert_same(shell.say("show late"), "0-2")

    def test_values_of_all_sorts(self):
        for value in [*any_values(), ["names"], ("names",), {"names": "names"}, 7]:
            kept = copy.deepcopy(value)
            shell = self.after("add late 0-1")
            self.assert_same(shell.say(value), "what", value)
            self.assert_says(shell, names="late", undo="version 0", redo="version 1")
            self.assert_same(value, kept)
        for value in (Shell(3), Bench(3), shell, shell.say):
            self.assert_same(shell.say(value), "what")

    def test_networks_of_all_sorts(self):
        for n in WORDY:
            shell, b = Shell(n), Bench(n)
            for network in drawn_networks(n, 2)[:8]:
                text = network_text(network)
                self.assert_same(shell.say("add a " + text), answer_text(b.add, "a", network))
                self.assert_same(shell.say("show a"), text)
                self.assert_same(shell.say("image a"), " ".join(str(key) for key in b.image_of("a")))
                self.assert_same(shell.say("keeps a"), "yes" if b.keeps("a") else "no")
                self.assert_same(shell.say("made"), str(b.made))
                self.assert_same(shell.say("drop a"), answer_text(b.drop, "a"))


def answer_text(call, *arguments):
    return "version " + answer(call, *arguments)


class DrawnTest(ShellCase):
    def draw_line(self, draw, n, names):
        def name():
            if names and draw.randrange(8):
                return draw.choice(names)
            return draw.choice(("a", "b", "c", "d", "none", "B", "a\n", "", "abcdefgh", "abcdefghi"))

        def text():
            gates = draw.choices(all_pairs(n), k=draw.randrange(4))
            return draw.choice((network_text(tuple(gates)), network_text(tuple(sorted(set(gates)))), "none", "0-1 1-0"))

        word = draw.choice(("add", "add", "told", "take", "keeps", "alike", *LINES))
        parts = {
            "add": lambda: (draw.choice((name(), draw.choice("abcdefg"))), text()), "told": lambda: (text(),),
            "call": lambda: (name(), draw.choice("abcdefg")), "alike": lambda: (name(), name()),
            "take": lambda: (name(), draw.choice(("0", "0", "1", "2", "01", "10", "9" * 5000, "x"))),
            "drop": lambda: (name(),), "show": lambda: (name(),), "keeps": lambda: (name(),),
            "image": lambda: (name(),),
        }.get(word, tuple)()
        line = list(" ".join((word, *parts)))
        if draw.randrange(8) == 0:
            at = draw.randrange(len(line) + 1)
            line[at:at + draw.randrange(2)] = draw.choice(("", " ", "0", "\n", "a", "-"))
        return "".join(line)

    def test_many_lines_of_all_sorts(self):
        found = {}
        for seed in range(100):
            draw = random.Random(seed)
            n = draw.choice((2, 3, 3, 4))
            shell, slow = Shell(n), SlowShell(n)
            for _ in range(80):
                line = self.draw_line(draw, n, list(slow.bench))
                told = slow.say(line)
                self.assert_same(shell.say(line), told, line)
                found[told] = found.get(told, 0) + 1
            for line in ("names", "order", "made", *[f"show {name}" for name in slow.bench]):
                self.assert_same(shell.say(line), slow.say(line))
        errors = ["error " + name for name in ("NoName", "Unfit", "Taken", "NothingToUndo", "NothingToRedo")]
        for told in ("what", "yes", "no", "none", "version 1", "version 10", *errors):
            self.assertGreater(found[told], 5, told)
