"""Shells, which are told lines of text and answer with text."""

from tieskept.benches import Bench
from tieskept.bounds import MAX_GATES
from tieskept.errors import BadText, TiesError
from tieskept.networktexts import network_text, read_network
from tieskept.orders import order_error

_WHAT = "what"
_NO_NAMES = "none"


class Shell:
    """A bench of n lines that is asked and edited by lines of text."""

    def __init__(self, n):
        self._bench = Bench(n)

    def say(self, line):
        """Return the answer to line."""
        try:
            word, arguments = _read_line(self._bench.n, line)
        except BadText:
            return _WHAT
        answer = _ANSWERS[word]
        try:
            return answer(self._bench, *arguments)
        except TiesError as error:
            return "error " + type(error).__name__


def _read_line(n, line):
    """Return the word of line and the list of its arguments."""
    if not isinstance(line, str):
        raise BadText()
    word, _, _ = line.partition(" ")
    if word not in _PARTS:
        raise BadText()
    kinds = _PARTS[word]
    # The last argument has all blanks that are left: a text and an order may have some.
    first, *texts = line.split(" ", len(kinds))
    if first != word or len(texts) != len(kinds):
        raise BadText()
    return word, [_read_argument(n, kind, text) for kind, text in zip(kinds, texts)]


def _read_argument(n, kind, text):
    """Return the argument of this kind of which text is the text."""
    if kind == "name":
        return _read_name(text)
    if kind == "spot":
        return _read_spot(text)
    if kind == "order":
        return _read_order(n, text)
    return read_network(n, text)


def _read_name(text):
    if text == "" or " " in text:
        raise BadText()
    return text


def _read_spot(text):
    if not text.isascii() or not text.isdigit() or (text[0] == "0" and text != "0"):
        raise BadText()
    # Python reads no numbers of many thousand figures; beyond the last spot one number is as good as another.
    return int(text) if len(text) <= len(str(MAX_GATES)) else MAX_GATES


def _read_order(n, text):
    order = read_network(n, text)
    if order_error(n, order) is not None:
        raise BadText()
    return order


def _version_text(version):
    return f"version {version}"


def _yes_or_no(told):
    return "yes" if told else "no"


def _add(bench, name, network):
    return _version_text(bench.add(name, network))


def _drop(bench, name):
    return _version_text(bench.drop(name))


def _call(bench, name, other):
    return _version_text(bench.call(name, other))


def _take(bench, name, spot):
    return _version_text(bench.take(name, spot))


def _told(bench, order):
    return _version_text(bench.told(order))


def _undo(bench):
    return _version_text(bench.undo())


def _redo(bench):
    return _version_text(bench.redo())


def _names(bench):
    return " ".join(list(bench)) or _NO_NAMES


def _show(bench, name):
    return network_text(bench[name])


def _order(bench):
    return network_text(bench.order)


def _keeps(bench, name):
    return _yes_or_no(bench.keeps(name))


def _alike(bench, name, other):
    return _yes_or_no(bench.alike(name, other))


def _image(bench, name):
    return " ".join([str(item) for item in bench.image_of(name)])


def _made(bench):
    return str(bench.made)


_ANSWERS = {
    "add": _add, "drop": _drop, "call": _call, "take": _take, "told": _told, "undo": _undo, "redo": _redo,
    "names": _names, "show": _show, "order": _order, "keeps": _keeps, "alike": _alike, "image": _image,
    "made": _made,
}

# What stands behind the word of each line, one blank ahead of each part.
_PARTS = {
    "add": ("name", "text"), "drop": ("name",), "call": ("name", "name"), "take": ("name", "spot"),
    "told": ("order",), "undo": (), "redo": (), "names": (), "show": ("name",), "order": (), "keeps": ("name",),
    "alike": ("name", "name"), "image": ("name",), "made": (),
}
